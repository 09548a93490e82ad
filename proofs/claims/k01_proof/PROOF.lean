import PyProof.Rows.All
import Wide.All
import OpenK.AllK
import Wide.FinOn
import HandS.Base
import HandS.Call
import HandS.List
import HandS.Comp
import HandS.Ends
import HandS.Words
import HandS.Exc
import HandS.WordsExc
import PyProof.ReprReads
import HandS.Dict
import HandS.IsInst
import PyProof.ReprRoads
import HandS.ForMost
import HandS.TupLe
import KE.KTypeOf
import HandS.ExcValue
import HandS.ExcIs
import KE.KExcIs
import HandS.ForSpec
import HandS.ExcOwn
import KE.GoesMore
import PyProof.EnumMake
import HandS.Lambda
import HandS.SetFor
import PyProof.ReprText
import PyProof.Rows.ReprOcc
import PyProof.ReprBulk
import PyProof.Rows.ReprShort
import HandS.Conv
import HandS.EndTab
import HandS.EndBits
import PySem.Challenge.RW_seencursors_k01_bits_and_shapes
set_option Elab.async false
set_option linter.all false
set_option maxRecDepth 100000
set_option maxHeartbeats 4000000
/-! Defs that may show data (repr): promises that hold where nothing is being shown around them. -/
namespace Own
open PySem PySem.Spec PyProof.Rows L2
/-- a def keeps a promise wherever nothing is being shown -/
structure GFn (P : Program) (w : World) (K : PySem.W.Frag) (mg : Str → Option Value) (base : Heap) (CX : CXT) (k : Nat) (f : Addr) (fd : FuncData) (ps : List Str) (sp : Sp) : Prop where
  len : ∀ vs H Q E, sp vs H Q E → vs.length = ps.length
  run : ∀ (A : Around) (outer : List Env) (s : Shared) (H : Hp) (args : Args) (us : List Value) (vs : List V) (Q : VK) (E : XK), A.guards = some [] → Room k A → Env0 P w K mg base A outer s H → BindsTo s fd args (ps.zip us) → Vals vs us → sp vs H Q E →
    codeAny (model P w) A (.call (.ref f) args) (CR CX outer P w H s Q E) s
theorem gfn_of {P : Program} {w : World} {K : PySem.W.Frag} {mg : Str → Option Value} {base : Heap} {CX : CXT} {k : Nat} {f : Addr} {fd : FuncData} {ps : List Str} {sp : Sp} (F : FnOk P w K mg base CX k f fd ps sp) : GFn P w K mg base CX k f fd ps sp :=
  ⟨F.len, fun A outer s H args us vs Q E _ hr e b r h => F.run A outer s H args us vs Q E hr e b r h⟩
section
variable {CX : CXT} {P : Program} {w : World} {K : PySem.W.Frag} {mg : Str → Option Value} {base : Heap} {k : Nat} {f : Addr}
/-- the rule for such a def -/
theorem Fun.gok {x qual : Str} {st : Stmt} {fd : FuncData} {N ps : List Str} {sp : Sp} (F : Fun K x qual st f fd) (S : FnScope N ps (defScope st)) (len : ∀ vs H Q E, sp vs H Q E → vs.length = ps.length)
    (hb : ∀ (cdv : Value) (A : Around) (outer : List Env) (s : Shared) (H : Hp) (vs : List V) (Q : VK) (E : XK), A.guards = some [] → Room k (A.deeper (envOfC qual (defScope st) s.heap.objs.size f cdv)) → sp vs H Q E →
      ∃ t, PSs (cxOf CX0 P w K mg base N qual (defScope st) f cdv A outer s H E).nox (defBody st) t ∧ t { nx := fun _ H' => Q .non H', rt := Q } (L2.start N vs) H) : GFn P w K mg base CX0 (k + 1) f fd ps sp := by
  obtain ⟨oc, od, kV, doc, pm, an, cdv, ct, osl, rfl, lk, hcd⟩ := F.ex
  refine ⟨len, fun A outer s H args us vs Q E hg hr e0 hbd r hsp => ?_⟩
  have hl := len _ _ _ _ hsp
  have KX : K.In s.heap := e0.mod.kin.keeps fun b o e => (e0.bs b o e).1
  have lim : s.heap.NoLimit := e0.mod.nolimit.keeps fun b o e => (e0.bs b o e).1
  have hk : ∀ y ∈ ps.zip us, (defScope st).names.lookup y.1 = some .local ∨ ((defScope st).names.lookup y.1 = some .cell ∧ ((cellsFrom (s.heap.objs.size + 1) (defScope st).names []).lookup y.1).isSome = true) := by
    rintro ⟨n, v⟩ hy
    rcases S.par n (List.of_mem_zip hy).1 with q | q
    · exact .inl q
    · exact .inr ⟨q, PySem.W.cellsFrom_some _ _ _ (.inl q)⟩
  refine codeAny_call_function hr.depth (KX _ _ lk) rfl S.co S.gen rfl (PySem.W.codeRec_of KX hcd) (hbd _ _ _ _ (wpAny_newFunctionEnv_cells S.kind hk fun env he s1 x => ?_))
  cases he
  refine ⟨lim.keeps x.toInCall.keep, codeAny_func ?_⟩
  obtain ⟨t, ht, hq⟩ := hb cdv A outer s H vs Q E hg (hr.deeper _) hsp
  have I : Inv (cxOf CX0 P w K mg base N qual (defScope st) f cdv A outer s H E) [] (L2.start N vs) H s1 := inv_start S hr.hd e0 hl r x
  refine wpAny_mono (ht.nox.run [] s1 (L2.start N vs) H _ I hq) (fun fl s' hs => ?_) fun e s' hs => hs
  have fin : ∀ {σ' : L2.St} {H' : Hp} {v : V} {u : Value}, Inv (cxOf CX0 P w K mg base N qual (defScope st) f cdv A outer s H E) [] σ' H' s' → RelV v u → Q v H' → CE outer P w H s Q u s' :=
    fun {_ H' v u} J rv q => ⟨v, H', J.os, J.bare, J.base, J.hok, rv, q⟩
  cases fl with
  | ret u => obtain ⟨v, σ', H', J, rv, q⟩ := hs; exact fin J rv q
  | next => obtain ⟨σ', H', J, q⟩ := hs; exact fin (v := V.non) (u := Value.none) J rfl q
  | brk => obtain ⟨_, _, _, q⟩ := hs; exact False.elim q
  | cont => obtain ⟨_, _, _, q⟩ := hs; exact False.elim q
end
section
variable {X : Cx} {CX : CXT} {k : Nat} {f : Addr} {fd : FuncData} {ps : List Str} {sp : Sp} {ds : List Value} {dvs : List V} {E : XK}
theorem run_g {pins : List (Addr × Obj)} {σ : L2.St} {H : Hp} {s : Shared} {Q : VK} {us : List Value} {vs : List V} (F : GFn X.prog X.w X.K X.mg X.base CX k f fd ps sp) (hg : X.A.guards = some []) (hr : Room k X.A) (hb : Binds X.K fd ps ds) (hd : Vals dvs ds) (hx : Passes CX X E)
    (I : Inv X pins σ H s) (r : Vals vs us) (h : sp (vs ++ dvs) H Q E) : wpAny (model X.prog X.w) X.A (call (.ref f) us) (EP X pins σ Q) X.xe s := by
  have r2 : Vals (vs ++ dvs) (us ++ ds) := r.append hd
  have hl : (us ++ ds).length = ps.length := r2.length.symm.trans (F.len _ _ _ _ h)
  refine wpAny_call (codeAny_mono (F.run X.A X.stack s H ⟨us, []⟩ (us ++ ds) (vs ++ dvs) Q E hg hr I.env0 (hb s us I.kIn hl) r2 h) fun r s' hq => ?_)
  rcases r with e | (u | _ | _ | _)
  · exact hx pins σ H s e s' I hq
  · first | exact I.after hq | exact False.elim hq
  · first | exact I.after hq | exact False.elim hq
  · first | exact I.after hq | exact False.elim hq
  · first | exact I.after hq | exact False.elim hq
/-- f(e, ..), f such a def -/
theorem pe_callG {x : Str} {e : Expr} {es : List Expr} {t : TA} {p pos : Pos} (F : GFn X.prog X.w X.K X.mg X.base CX k f fd ps sp) (hgd : X.A.guards = some []) (hr : Room k X.A) (hg : Gl X x) (hm : X.mg x = some (.ref f)) (hk : PySem.W.keepIn X.K (.ref f) = true) (hb : Binds X.K fd ps ds) (hd : Vals dvs ds) (hx : Passes CX X E)
    (ha : PA X (e :: es) t) (hdb : (x == ("__debug__" : Str)) = false := by decide) (he : starEach (e :: es) X.env = (false, eval e X.env) :: starEach es X.env := by rfl) (hpl : (backTo pos (starEach es X.env)).any (·.1) = false := by rfl) :
    PE X (.Call (.Name x p) (e :: es) [] pos) (tCall sp dvs E t) :=
  ⟨fun pins s σ H Q I h => wpAny_Call_Name_kw (ld_glob I hg hm (PySem.W.callWith_K (h₀ := X.base) I.ok.mod.kin hk (thn (ha.run pos pins s σ H _ I h) fun us s1 ⟨vs, H1, I1, r, q⟩ => ⟨I1.kIn, run_g F hgd hr hb hd hx I1 r q⟩) he hpl) hdb)⟩
end
/-- the law's own promise, at the heap behind the top -/
theorem law_g {P : Program} {w : World} {K : PySem.W.Frag} {mg mb : Str → Option Value} {k : Nat} {fa a : Addr} {fd : FuncData} {x : Str} {sp : Sp} {s₁ : Shared} {us : List Value} {ns : List Int} (KX : K.In s₁.heap) (hm : s₁.heap.Ns mainGlobals mg) (hb : s₁.heap.Ns builtinsNs mb)
    (hbb : ∀ x : Str, x ≠ "__name__" → mb x = bootBuiltins x) (hlim : s₁.heap.NoLimit) (hg : s₁.gens = #[]) (ha : s₁.heap.get? a = some { cls := .type "list", data := .seq us.toArray }) (hi : IntsAre us ns) (hl : ns.length ≤ sizeLine) (hr : Room k callerA)
    (F : ∀ base : Heap, K.In base → base.Ns mainGlobals mg → GFn P w K mg base CX0 k fa fd [x] sp) (hbind : ∀ (s : Shared) (u : Value), BindsTo s fd ⟨[u], []⟩ [(x, u)]) (hsp : ∀ H : Hp, SqL K H a (ns.map V.int) → sp [.ref a] H (fun v _ => v = .bl true) fun _ _ _ => False) :
    codeAny (model P w) callerA (.call (.ref fa) ⟨[.ref a], []⟩) (fun r s' => r = .ok (.ret (.bool true)) ∧ PySem.OldK s₁.heap s'.heap ∧ s'.os = s₁.os ∧ AllBare s'.gens) s₁ := by
  have rv := vals_ints hi
  have core : ∀ H : Hp, (∀ b, H b = none ∨ ∃ o ys, H b = some (.frz o (.lst ys))) → SqL K H a (ns.map V.int) → HOk P w H s₁.heap → (∀ b, H b ≠ none → b = a ∧ K.lookup a = none) →
      codeAny (model P w) callerA (.call (.ref fa) ⟨[.ref a], []⟩) (fun r s' => r = .ok (.ret (.bool true)) ∧ PySem.OldK s₁.heap s'.heap ∧ s'.os = s₁.os ∧ AllBare s'.gens) s₁ := by
    intro H hO hS hok hA
    have free : ∀ {b : Addr}, b ≠ a ∨ (∃ o, K.lookup b = some o) → H b = none := by
      intro b z
      cases q : H b with
      | none => rfl
      | some u =>
        obtain ⟨e1, e2⟩ := hA b (by rw [q]; simp)
        rcases z with z | ⟨o, z⟩
        · exact absurd e1 z
        · rw [e1, e2] at z; cases z
    have nd : ∀ {b : Addr} {o : Obj} {es : Array DictEntry} {ep : Nat}, s₁.heap.get? b = some o → o.data = .dict es ep → b ≠ a := by
      rintro b o es ep e d rfl
      rw [ha] at e
      cases e
      cases d
    have nsK : ∀ {b : Addr} {m : Str → Option Value}, s₁.heap.Ns b m → (hidT s₁.heap H).Ns b m := by
      rintro b m ⟨o, es, ep, e, d, r⟩
      exact ⟨o, es, ep, hidT_get e (free (.inl (nd e d))), d, r⟩
    have hK : K.In (hidT s₁.heap H) := fun b o e => hidT_get (KX b o e) (free (.inr ⟨o, e⟩))
    have hM : Mod K mg (hidT s₁.heap H) := ⟨hK, nsK hm, ⟨mb, nsK hb, hbb⟩, by
      obtain ⟨mc, h1, h2⟩ := hlim
      exact ⟨mc, nsK h1, h2⟩⟩
    have e0 : Env0 P w K mg (hidT s₁.heap H) callerA [] s₁ H := ⟨rfl, hM, fun b o e => of_hidT e, Nat.le_of_eq (hidT_size _ _), trivial, (by simp [frs]), hok, .of_eq hg⟩
    refine codeAny_mono ((F _ hK (nsK hm)).run callerA [] s₁ H ⟨[.ref a], []⟩ [.ref a] [.ref a] _ _ rfl hr e0 (hbind s₁ (.ref a)) (.cons rfl .nil) (hsp H hS)) fun r s' h => ?_
    rcases r with e | fl
    · exact False.elim h
    cases fl with
    | next => exact False.elim h
    | brk => exact False.elim h
    | cont => exact False.elim h
    | ret u =>
      obtain ⟨v, H', os, bare, un, hok', r', q⟩ := h
      obtain rfl : v = .bl true := q
      obtain rfl : u = Value.bool true := r'
      refine ⟨rfl, PySem.OldK.of_keep fun b o e => ?_, os, bare⟩
      rcases hO b with z | ⟨ob, ys, z⟩
      · exact un.keep b o e z (by simp [frs]) (by simp)
      · obtain ⟨e1, _⟩ := hok b _ z
        obtain ⟨e2, _⟩ := hok' b _ (un.frzs b ob _ z)
        rw [e] at e1
        cases e1
        exact e2
  cases hk : K.lookup a with
  | some o =>
    have e := KX a o hk
    rw [ha] at e
    cases e
    exact core (fun _ => none) (fun _ => .inl rfl) (.inr ⟨_, us.toArray, _, hk, rfl, rfl, rfl, by rw [List.size_toArray, hi.length]; exact hl, by simpa using rv⟩) (fun b u z => by have y : (none : Option HO) = some u := z; cases y) fun b z => absurd rfl z
  | none =>
    have at_ : ∀ b, b ≠ a → (fun b : Addr => if b = a then some (HO.frz { cls := .type "list", data := .seq us.toArray } (.lst (ns.map V.int))) else none) b = none := fun b hb => if_neg hb
    refine core (fun b => if b = a then some (.frz { cls := .type "list", data := .seq us.toArray } (.lst (ns.map V.int))) else none) (fun b => ?_) (.inl (.inr ⟨_, if_pos rfl⟩)) (fun b u z => ?_) fun b z => ?_
    · by_cases hb : b = a
      · exact .inr ⟨_, _, if_pos hb⟩
      · exact .inl (at_ b hb)
    · by_cases hb : b = a
      · subst hb
        have y := (if_pos rfl).symm.trans z
        cases y
        exact ⟨ha, by rw [List.length_map]; exact hl, us, _, rv, ha⟩
      · have y := (at_ b hb).symm.trans z
        cases y
    · by_cases hb : b = a
      · exact ⟨hb, hk⟩
      · exact absurd (at_ b hb) z
theorem walk_g {l : PySem.W.OpenLaw} {n k : Nat} {q : Program} {loose : List Str} {XP : (Str → Option Value) → Heap → Prop} {YP : World → Heap → Prop} {d : DefRec} {K : Params → PySem.W.Frag} {sp : World → Sp} {x : Str} (hn : l.most = some n) (hn2 : n ≤ sizeLine) (hdf : d.params.defaults = []) (hr : Room k callerA)
    (hY : ∀ (w : World) (h : Heap), YP w h → (K w.params).In h)
    (F : ∀ (w : World) (mg : Str → Option Value) (fa : Addr) (h : Heap), (K w.params).In h → h.Ns mainGlobals mg → mg d.name = some (.ref fa) → ∃ fd : FuncData, (∀ (s : Shared) (u : Value), BindsTo s fd ⟨[u], []⟩ [(x, u)]) ∧
      ∀ base : Heap, (K w.params).In base → base.Ns mainGlobals mg → GFn l.prog w (K w.params) mg base CX0 k fa fd [x] (sp w))
    (hsp : ∀ (w : World) (H : Hp) (a : Addr) (ns : List Int), ns.length ≤ n → SqL (K w.params) H a (ns.map V.int) → sp w [.ref a] H (fun v _ => v = .bl true) fun _ _ _ => False) :
    PySem.W.WalkO q loose XP YP l.row.toRowW d [] (fun f vs => PySem.call f vs) := by
  refine Att.attach_call hn hdf fun w s₀ s₁ mg mb fa o pm cd doc a vs ns G Y ho hd hcd hmg hobj hints hlen hg => ?_
  have KX := hY w _ Y
  obtain ⟨fd, hb, hF⟩ := F w mg fa _ KX G.T.g hmg
  exact law_g KX G.T.g G.T.b G.T.builtins G.T.nolimit hg hobj hints (Nat.le_trans hlen hn2) hr hF hb fun H hS => hsp w H a ns hlen hS
end Own
/-! Data at an abstract value, dicts too; repr of it. -/
namespace Own
open PySem PySem.Spec PyProof.Rows L2 P3
/-- a dict's key as data -/
def keyD : Key → PyData
  | .inl i => .int i
  | .inr x => .str x
mutual
/-- the value v is the data d -/
inductive Dv (K : PySem.W.Frag) (H : Hp) : V → PyData → Prop
  | non : Dv K H .non .none
  | bl (b : Bool) : Dv K H (.bl b) (.bool b)
  | int (i : Int) : Dv K H (.int i) (.int i)
  | str (x : Str) : Dv K H (.str x) (.str x)
  | lst {a : Addr} {xs : List V} {ds : List PyData} : SqL K H a xs → DvAll K H xs ds → Dv K H (.ref a) (.list ds)
  | tup {a : Addr} {xs : List V} {ds : List PyData} : SqT K H a xs → DvAll K H xs ds → Dv K H (.ref a) (.tuple ds)
  | dct {a : Addr} {kvs : List (Key × V)} {ds : List PyData} : H a = some (.dK kvs) → DvAll K H (kvs.map (·.2)) ds → Dv K H (.ref a) (.dict ((kvs.map fun p => keyD p.1).zip ds))
inductive DvAll (K : PySem.W.Frag) (H : Hp) : List V → List PyData → Prop
  | nil : DvAll K H [] []
  | cons {v : V} {vs : List V} {d : PyData} {ds : List PyData} : Dv K H v d → DvAll K H vs ds → DvAll K H (v :: vs) (d :: ds)
end
theorem DvAll.len {K : PySem.W.Frag} {H : Hp} : ∀ {vs : List V} {ds : List PyData}, DvAll K H vs ds → vs.length = ds.length
  | _, _, .nil => rfl
  | _, _, .cons _ r => congrArg (· + 1) (DvAll.len r)
mutual
theorem Dv.same {K : PySem.W.Frag} {H H' : Hp} (s : Same H H') : ∀ {v : V} {d : PyData}, Dv K H v d → Dv K H' v d
  | _, _, .non => .non
  | _, _, .bl b => .bl b
  | _, _, .int i => .int i
  | _, _, .str x => .str x
  | _, _, .lst h r => .lst (s.seq h) (DvAll.same s r)
  | _, _, .tup h r => .tup (by
      rcases h with (h | ⟨o, h⟩) | h
      · exact .inl (.inl (s _ _ h))
      · exact .inl (.inr ⟨o, s _ _ h⟩)
      · exact .inr h) (DvAll.same s r)
  | _, _, .dct h r => .dct (s _ _ h) (DvAll.same s r)
theorem DvAll.same {K : PySem.W.Frag} {H H' : Hp} (s : Same H H') : ∀ {vs : List V} {ds : List PyData}, DvAll K H vs ds → DvAll K H' vs ds
  | _, _, .nil => .nil
  | _, _, .cons h r => .cons (Dv.same s h) (DvAll.same s r)
end
section
variable {X : Cx} {pins : List (Addr × Obj)} {σ : L2.St} {H : Hp} {s : Shared}
/-- what is shown of data that stands in a heap -/
def Sh (X : Cx) (h : Heap) (u : Value) (d : PyData) : Prop := ∃ as bs, Reads h u d as ∧ ReadAtMost h d.depth bs ∧ ReprK X.prog X.w bs h d.depth u d.shown ∧ ∀ a, u = .ref a → d.shown.length ≤ sizeLine → ∃ T idr, ShowsBy X.prog X.w h a d T idr
def ShAll (X : Cx) (h : Heap) (us : List Value) (ds : List PyData) : Prop := ∃ as bs, ReadsAll h us ds as ∧ ReadAtMost h (PyData.depthAll ds) bs ∧ ReprAllK X.prog X.w bs h (PyData.depthAll ds) us (PyData.shownAll ds)
theorem ShAll.nil {h : Heap} : ShAll X h [] [] := ⟨[], [], .nil, (fun _ h => nomatch h), .nil⟩
theorem ShAll.cons {h : Heap} {u : Value} {us : List Value} {d : PyData} {ds : List PyData} (x : Sh X h u d) (y : ShAll X h us ds) : ShAll X h (u :: us) (d :: ds) := by
  obtain ⟨a1, b1, r1, m1, k1, _⟩ := x
  obtain ⟨a2, b2, r2, m2, k2⟩ := y
  have l1 : d.depth ≤ PyData.depthAll (d :: ds) := by simp only [PyData.depthAll]; exact Nat.le_max_left _ _
  have l2 : PyData.depthAll ds ≤ PyData.depthAll (d :: ds) := by simp only [PyData.depthAll]; exact Nat.le_max_right _ _
  refine ⟨_, b1 ++ b2, .cons r1 r2, (m1.mono l1).append (m2.mono l2), ?_⟩
  simp only [PyData.shownAll]
  exact .cons ((k1.more fun b hb => List.mem_append_left _ hb).level_le l1) (k2.more_le (fun b hb => List.mem_append_right _ hb) l2)
theorem sh_of_is {h : Heap} {u : Value} {d : PyData} {t : Str} (r : Reads h u d []) (e : d.shown = t) (k : ReprIs X.prog X.w u t) (n : ∀ a, u ≠ .ref a) : Sh X h u d := ⟨[], [], r, (fun _ h => nomatch h), by rw [e]; exact .of_is k _ _ _, fun a z => absurd z (n a)⟩
theorem sh_list {h : Heap} {a : Addr} {o : Obj} {us : List Value} {n : Nat} {ds : List PyData} (ho : h.get? a = some o) (hc : o.cls = .type "list") (hd : o.data = .seq us.toArray n) (x : ShAll X h us ds) : Sh X h (.ref a) (.list ds) := by
  obtain ⟨as, bs, r, m, k⟩ := x
  have R : Reads h (.ref a) (.list ds) _ := .list ho hc hd r
  have na : a ∉ bs := not_mem_of_deeper R (by simp only [PyData.depth]; omega) m
  refine ⟨_, a :: bs, R, ReadAtMost.cons R (by simp only [PyData.depth]; omega) m, ?_, fun a' z hz => ?_⟩
  · simp only [PyData.depth, PyData.shown]
    cases us with
    | nil =>
      cases r
      simp only [PyData.shownAll, listText_nil]
      exact ReprK.listEmpty ho hc hd
    | cons u us => exact ReprK.list ho hc hd na (by simpa using k.length_eq) fun i y e => k.item i y (by simpa using e)
  · cases z
    have hz' : (listText (PyData.shownAll ds)).length ≤ sizeLine := by simpa only [PyData.shown] using hz
    refine ⟨"list", "list.__repr__", F.slot_list_repr.toG, F.slot_list_str, F.slot_list_format, fun s kp => ⟨o, kp _ _ ho, hc⟩, fun A E s Q hg hu kp hQ => ?_⟩
    simp only [PyData.depth] at hu
    simp only [PyData.shown] at hQ
    cases us with
    | nil =>
      cases r
      simp only [PyData.shownAll, listText_nil] at hQ
      exact call_list_repr_empty ⟨o, kp _ _ ho, hc⟩ (kp _ _ ho) hd (hQ s.heap _ _ fun _ _ e => e)
    | cons u us => exact call_list_reprK ho hc hd na (by simpa using k.length_eq) (fun i y e => k.item i y (by simpa using e)) hg (fun b _ => Clear.nil b) hu kp hQ hz'
theorem sh_tup {h : Heap} {a : Addr} {o : Obj} {us : List Value} {n : Nat} {ds : List PyData} (ho : h.get? a = some o) (hc : o.cls = .type "tuple") (hd : o.data = .seq us.toArray n) (x : ShAll X h us ds) : Sh X h (.ref a) (.tuple ds) := by
  obtain ⟨as, bs, r, m, k⟩ := x
  have R : Reads h (.ref a) (.tuple ds) _ := .tuple ho hc hd r
  have na : a ∉ bs := not_mem_of_deeper R (by simp only [PyData.depth]; omega) m
  refine ⟨_, a :: bs, R, ReadAtMost.cons R (by simp only [PyData.depth]; omega) m, ?_, fun a' z hz => ?_⟩
  · simp only [PyData.depth, PyData.shown]
    exact ReprK.tuple ho hc hd na k
  · cases z
    have hz' : (tupleText (PyData.shownAll ds)).length ≤ sizeLine := by simpa only [PyData.shown] using hz
    refine ⟨"tuple", "tuple.__repr__", F.slot_tuple_repr, F.slot_tuple_str, F.slot_tuple_format, fun s kp => ⟨o, kp _ _ ho, hc⟩, fun A E s Q hg hu kp hQ => ?_⟩
    simp only [PyData.depth] at hu
    simp only [PyData.shown] at hQ
    exact call_tuple_reprK ho hc hd na k hg (fun b _ => Clear.nil b) hu kp hQ hz'
theorem sh_dict {h : Heap} {a : Addr} {o : Obj} {es : Array DictEntry} {n : Nat} {kvs : List (PyData × PyData)} (hs : (a == sysModules) = false) (ho : h.get? a = some o) (hc : o.cls = .type "dict") (hd : o.data = .dict es n)
    (x : ShAll X h (es.toList.map (·.key)) (kvs.map (·.1))) (y : ShAll X h (es.toList.map (·.val)) (kvs.map (·.2))) : Sh X h (.ref a) (.dict kvs) := by
  obtain ⟨as, b1, r, m1, k1⟩ := x
  obtain ⟨as', b2, r', m2, k2⟩ := y
  have R : Reads h (.ref a) (.dict kvs) _ := .dict ho hc hd r r'
  have m : ReadAtMost h (PyData.depthKv kvs) (b1 ++ b2) := (m1.mono (PyData.depthAll_keys_le kvs)).append (m2.mono (PyData.depthAll_vals_le kvs))
  have na : a ∉ b1 ++ b2 := not_mem_of_deeper R (by simp only [PyData.depth]; omega) m
  have K2 := ReprEntriesK.of_two es.toList _ _ (k1.more_le (fun b z => List.mem_append_left b2 z) (PyData.depthAll_keys_le kvs)) (k2.more_le (fun b z => List.mem_append_right b1 z) (PyData.depthAll_vals_le kvs))
  refine ⟨_, a :: (b1 ++ b2), R, ReadAtMost.cons R (by simp only [PyData.depth]; omega) m, ?_, fun a' z hz => ?_⟩
  · simp only [PyData.depth, PyData.shown, PyData.shownKv_eq]
    exact ReprK.dict ho hc hd hs na K2
  · cases z
    have hz' : (dictText (PyData.shownKv kvs)).length ≤ sizeLine := by simpa only [PyData.shown] using hz
    refine ⟨"dict", "dict.__repr__", F.slot_dict_repr, F.slot_dict_str, F.slot_dict_format, fun s kp => ⟨o, kp _ _ ho, hc⟩, fun A E s Q hg hu kp hQ => ?_⟩
    simp only [PyData.depth] at hu
    simp only [PyData.shown, PyData.shownKv_eq] at hQ
    exact call_dict_reprK ho hc hd hs na K2 hg (fun b _ => Clear.nil b) hu kp hQ (by rw [← PyData.shownKv_eq]; exact hz')
mutual
/-- numbers and texts of a size that is shown -/
def okD : PyData → Bool
  | .none => true
  | .bool _ => true
  | .int i => decide (i.natAbs.log2 < 1920)
  | .str x => decide ((reprText x).length ≤ sizeLine)
  | .list xs => okAll xs
  | .tuple xs => okAll xs
  | .dict kvs => okKv kvs
def okAll : List PyData → Bool
  | [] => true
  | x :: xs => okD x && okAll xs
def okKv : List (PyData × PyData) → Bool
  | [] => true
  | (k, v) :: r => okD k && okD v && okKv r
end
theorem okKv_split : ∀ kvs : List (PyData × PyData), okKv kvs = true → okAll (kvs.map (·.1)) = true ∧ okAll (kvs.map (·.2)) = true
  | [], _ => ⟨rfl, rfl⟩
  | (k, v) :: r, h => by
    have h' : (okD k = true ∧ okD v = true) ∧ okKv r = true := by simpa [okKv] using h
    obtain ⟨h1, h2⟩ := okKv_split r h'.2
    exact ⟨by simp only [List.map_cons, okAll, h'.1.1, h1, Bool.and_self], by simp only [List.map_cons, okAll, h'.1.2, h2, Bool.and_self]⟩
theorem sh_int {h : Heap} (i : Int) (t : Tok) (e : okD (.int i) = true) : Sh X h (.int i t) (.int i) := sh_of_is (.int i t) (by simp only [PyData.shown]) (ReprIs.int t (by simpa [okD] using e)) (fun _ z => nomatch z)
theorem sh_str {h : Heap} (x : Str) (t : Tok) (e : okD (.str x) = true) : Sh X h (.str x t) (.str x) := sh_of_is (.str x t) (by simp only [PyData.shown]) (ReprIs.str x t (by simpa [okD] using e)) (fun _ z => nomatch z)
theorem keys_sh {h : Heap} : ∀ (kvs : List (Key × V)) (vs : List (Key × Value)) (es : List DictEntry), KV kvs vs → Pairs (mixKind X.prog X.w) es vs → okAll (kvs.map fun p => keyD p.1) = true → ShAll X h (es.map (·.key)) (kvs.map fun p => keyD p.1)
  | _, _, _, .nil, .nil, _ => .nil
  | kv :: kvs, _ :: vs, e :: es, .cons ⟨h1, _⟩ r, .cons h2 _ r2, ok => by
    have ok' : okD (keyD kv.1) = true ∧ okAll (kvs.map fun p => keyD p.1) = true := by simpa [okAll] using ok
    refine .cons ?_ (keys_sh kvs vs es r r2 ok'.2)
    obtain ⟨k, v⟩ := kv
    dsimp only at h1 ok' ⊢
    rw [← h1] at h2
    rcases keyIs_shape h2 with ⟨i, t, rfl, e2⟩ | ⟨x, t, rfl, e2⟩
    · rw [e2]; exact sh_int i t ok'.1
    · rw [e2]; exact sh_str x t ok'.1
theorem vals_of {kvs : List (Key × V)} {vs : List (Key × Value)} {es : List DictEntry} (r : KV kvs vs) (p : Pairs (mixKind X.prog X.w) es vs) : Vals (kvs.map (·.2)) (es.map (·.val)) := by
  induction r generalizing es with
  | nil => cases p; exact .nil
  | cons h _ ih =>
    cases p with
    | cons h1 h2 r2 =>
      refine .cons ?_ (ih r2)
      have z := h.2
      rw [← h2] at z
      exact z
theorem exact_cls {o : Obj} (h : o.ExactDict) : o.cls = .type "dict" := h.1
mutual
theorem Dv.sh (I : Inv X pins σ H s) : ∀ {v : V} {d : PyData}, Dv X.K H v d → ∀ u, RelV v u → okD d = true → Sh X s.heap u d
  | _, _, .non, _, r, _ => by cases r; exact sh_of_is .none (by simp only [PyData.shown]) ReprIs.none (fun _ z => nomatch z)
  | _, _, .bl b, _, r, _ => by cases r; exact sh_of_is (.bool b) (by simp only [PyData.shown]) (ReprIs.bool b) (fun _ z => nomatch z)
  | _, _, .int i, _, r, ok => by obtain ⟨t, rfl⟩ := r; exact sh_int i t ok
  | _, _, .str x, _, r, ok => by obtain ⟨t, rfl⟩ := r; exact sh_str x t ok
  | _, _, .lst h ha, _, r, ok => by
    cases r
    obtain ⟨its, rv, ⟨o, n, ho, hc, _, hd⟩, _⟩ := I.list h
    exact sh_list ho hc hd (DvAll.sh I ha its rv (by simpa [okD] using ok))
  | _, _, .tup h ha, _, r, ok => by
    cases r
    obtain ⟨its, rv, ⟨o, ho, hc, n, hd⟩, _⟩ := I.tuple h
    exact sh_tup ho hc hd (DvAll.sh I ha its rv (by simpa [okD] using ok))
  | _, _, .dct (kvs := kvs) (ds := ds) h ha, _, r, ok => by
    cases r
    obtain ⟨_, hs, vs, rv, o, es, ep, ho, hx, hd, _, pr, _⟩ := I.hok _ _ h
    have e1 : (((kvs.map fun p => keyD p.1).zip ds).map (·.1)) = kvs.map fun p => keyD p.1 := List.map_fst_zip (by rw [← ha.len]; simp)
    have e2 : (((kvs.map fun p => keyD p.1).zip ds).map (·.2)) = ds := List.map_snd_zip (by rw [← ha.len]; simp)
    obtain ⟨o1, o2⟩ := okKv_split _ (by simpa [okD] using ok)
    rw [e1] at o1
    rw [e2] at o2
    refine sh_dict hs ho (exact_cls hx) hd ?_ ?_
    · rw [e1]; exact keys_sh kvs vs es.toList rv pr o1
    · rw [e2]; exact DvAll.sh I ha _ (vals_of rv pr) o2
theorem DvAll.sh (I : Inv X pins σ H s) : ∀ {vs : List V} {ds : List PyData}, DvAll X.K H vs ds → ∀ us, Vals vs us → okAll ds = true → ShAll X s.heap us ds
  | _, _, .nil, _, r, _ => by cases r; exact .nil
  | _, _, .cons h1 h2, _, r, ok => by
    have ok' := ok
    simp only [okAll, Bool.and_eq_true] at ok'
    cases r with
    | cons r1 r2 => exact .cons (Dv.sh I h1 _ r1 ok'.1) (DvAll.sh I h2 _ r2 ok'.2)
end
/-- repr(x), x data: its text -/
def rRepr (K : PySem.W.Frag) : List V → Hp → VK → Prop := fun xs H Q => ∃ (x : V) (d : PyData), xs = [x] ∧ Dv K H x d ∧ okD d = true ∧ d.shown.length ≤ sizeLine ∧ d.depth ≤ 40 ∧ Q (.str d.shown) H
theorem call_repr (hg : X.A.guards = some []) (hu : X.A.units + 64 < cLine) : CallR X (.builtin "repr") (rRepr X.K) := by
  intro pins s σ H xs us Q I r h
  obtain ⟨x, d, rfl, hx, ok, hz, dp, q⟩ := h
  cases r with
  | cons rx rr =>
    cases rr
    rename_i u
    have fin : ∀ (h' : Heap) (t : Tok) (tk : Nat), (∀ b o, s.heap.get? b = some o → h'.get? b = some o) → EP X pins σ Q (.str d.shown t) { s with heap := h', toks := tk } := fun h' t tk kp => ⟨.str d.shown, H, I.kept (t' := tk) kp, ⟨t, rfl⟩, q⟩
    cases hx with
    | non => cases rx; exact P.repr_of_none (by simpa only [PyData.shown] using fin s.heap _ _ fun _ _ e => e)
    | bl b => cases rx; exact P.repr_of_bool (by simpa only [PyData.shown] using fin s.heap _ _ fun _ _ e => e)
    | int i => obtain ⟨t, rfl⟩ := rx; exact P.repr_of_int (by simpa [okD] using ok) (by simpa only [PyData.shown] using fin s.heap _ _ fun _ _ e => e)
    | str z => obtain ⟨t, rfl⟩ := rx; exact P.repr_of_str (by simpa only [PyData.shown] using fin s.heap _ _ fun _ _ e => e) (by simpa only [PyData.shown] using hz)
    | lst h1 h2 =>
      cases rx
      obtain ⟨_, _, _, _, _, S⟩ := Dv.sh I (.lst h1 h2) _ rfl ok
      obtain ⟨T, idr, S⟩ := S _ rfl hz
      exact call_repr_slot (by omega) (S.typeIs s fun _ _ e => e) S.slotRepr (S.call X.A.in1 X.xe s _ hg (by show X.A.units + 1 + _ < cLine; omega) (fun _ _ e => e) fun h' u tk hk => ⟨_, _, rfl, fin h' u tk hk⟩)
    | tup h1 h2 =>
      cases rx
      obtain ⟨_, _, _, _, _, S⟩ := Dv.sh I (.tup h1 h2) _ rfl ok
      obtain ⟨T, idr, S⟩ := S _ rfl hz
      exact call_repr_slot (by omega) (S.typeIs s fun _ _ e => e) S.slotRepr (S.call X.A.in1 X.xe s _ hg (by show X.A.units + 1 + _ < cLine; omega) (fun _ _ e => e) fun h' u tk hk => ⟨_, _, rfl, fin h' u tk hk⟩)
    | dct h1 h2 =>
      cases rx
      obtain ⟨_, _, _, _, _, S⟩ := Dv.sh I (.dct h1 h2) _ rfl ok
      obtain ⟨T, idr, S⟩ := S _ rfl hz
      exact call_repr_slot (by omega) (S.typeIs s fun _ _ e => e) S.slotRepr (S.call X.A.in1 X.xe s _ hg (by show X.A.units + 1 + _ < cLine; omega) (fun _ _ e => e) fun h' u tk hk => ⟨_, _, rfl, fin h' u tk hk⟩)
end
end Own
/-! type(x) of data; type(x) is T; x is True, x is False. -/
namespace Own
open PySem PySem.Spec PyProof.Rows L2
section
variable {prog : Program} {w : World} {A : Around} {E : Value → Shared → Prop} {h : Heap} {g : Array GenState} {d : Drawn} {t : Nat} {os : OsState}
theorem call_type_val {u : Value} {T : String} {Q : Value → Shared → Prop} (hu : shownTypeOf u = pure (.type T)) (hn : (u == Value.builtin "__main__.__loader__#opaque") = false) (hq : Q (.type T) ⟨h, g, d, t, os⟩) :
    wpAny (model prog w) A (call (.type "type") [u]) Q E ⟨h, g, d, t, os⟩ := by
  refine wpAny_call (codeAny_of_tree ?_)
  show wpAny _ _ (callAny (.type "type") ⟨[u], []⟩) _ _ _
  simp only [callAny]
  refine wpAny_pure ⟨Code.quiet_builtin _ (by decide +kernel), codeAny_builtin entry_type_call ?_⟩
  unfold Builtin.«type.__call__»
  dsimp only
  have h2 : ([u].headD Value.none == Value.builtin "__main__.__loader__#opaque") = false := hn
  have hu2 : shownTypeOf ([u].headD Value.none) = pure (.type T) := hu
  have e1 : (Value.type "type" == Value.type "type") = true := beq_self_eq_true _
  have e2 : ([u].length == 1) = true := rfl
  have e3 : (!([] : List (Str × Value)).isEmpty) = false := rfl
  simp only [e1, e2, e3, h2, hu2, if_true, Bool.false_eq_true, if_false]
  exact wpAny_bind (wpAny_pure (wpAny_pure hq))
end
section
variable {X : Cx}
theorem plain_of {v : V} {u : Value} (r : RelV v u) (b : Bool) : plainIs u (.bool b) = true := by
  cases v <;> first | (obtain ⟨t, rfl⟩ := r; rfl) | (cases r; rfl)
theorem is_bl_of {v : V} {u : Value} (r : RelV v u) (b : Bool) : (u == Value.bool b) = decide (v = .bl b) := by
  cases v with
  | bl c =>
    cases (show u = Value.bool c from r)
    by_cases e : c = b
    · subst e; simp
    · have e1 : Value.bool c ≠ Value.bool b := fun z => e (Value.bool.inj z)
      have e2 : V.bl c ≠ V.bl b := fun z => e (V.bl.inj z)
      rw [beq_eq_false_iff_ne.mpr e1, decide_eq_false e2]
  | _ =>
    have e1 : u ≠ Value.bool b := by
      intro z
      subst z
      first | (obtain ⟨t, q⟩ := r; cases q; done) | (cases r; done)
    rw [beq_eq_false_iff_ne.mpr e1, decide_eq_false (fun z => by cases z)]
/-- x is True, x is False -/
theorem op_is_b : OpR X (compareOp .Is) (fun x y H Q => ∃ b, y = .bl b ∧ Q (.bl (decide (x = .bl b))) H) := by
  intro pins s σ H x y v u Q I rx ry h
  obtain ⟨b, rfl, q⟩ := h
  cases (show u = Value.bool b from ry)
  refine wpAny_is_plain (plain_of rx b) ⟨.bl _, H, I, rfl, ?_⟩
  rw [is_bl_of rx b]
  exact q
/-- x is not True, x is not False -/
theorem op_isnot_b : OpR X (compareOp .IsNot) (fun x y H Q => ∃ b, y = .bl b ∧ Q (.bl (!decide (x = .bl b))) H) := by
  intro pins s σ H x y v u Q I rx ry h
  obtain ⟨b, rfl, q⟩ := h
  cases (show u = Value.bool b from ry)
  refine wpAny_isNot_plain (plain_of rx b) ⟨.bl _, H, I, rfl, ?_⟩
  rw [is_bl_of rx b]
  exact q
/-- type(x) is T, built-in types -/
theorem op_is_ty : OpR X (compareOp .Is) (fun x y H Q => ∃ a b, x = .ty a ∧ y = .ty b ∧ Q (.bl (decide (a = b))) H) := by
  intro pins s σ H x y v u Q I rx ry h
  obtain ⟨a, b, rfl, rfl, q⟩ := h
  cases (show v = Value.type a from rx)
  cases (show u = Value.type b from ry)
  by_cases e : a = b
  · subst e
    exact wpAny_is_self rfl ⟨.bl true, H, I, rfl, by simpa using q⟩
  · exact wpAny_is_other rfl (fun z => e (Value.type.inj z)) ⟨.bl false, H, I, rfl, by simpa [e] using q⟩
def rTyp (K : PySem.W.Frag) : List V → Hp → VK → Prop := fun xs H Q => ∃ (x : V) (T : String), xs = [x] ∧ TyX K H x (.type T) ∧ (Value.type T == Value.type "builtin_function_or_method") = false ∧ Q (.ty T) H
theorem ty_at {pins : List (Addr × Obj)} {σ : L2.St} {H : Hp} {s : Shared} {x : V} {u : Value} {T : String} (I : Inv X pins σ H s) (rx : RelV x u) (ty : TyX X.K H x (.type T)) : (typeOf u = pure (.type T) ∧ ∀ a, u ≠ .ref a) ∨ ∃ a, u = .ref a ∧ PySem.W.KitAt a T s.heap := by
  cases ty with
  | base b =>
    cases b with
    | non => cases (show u = Value.none from rx); exact .inl ⟨rfl, fun _ z => nomatch z⟩
    | bl y => cases (show u = Value.bool y from rx); exact .inl ⟨rfl, fun _ z => nomatch z⟩
    | int i => obtain ⟨t, rfl⟩ := rx; exact .inl ⟨rfl, fun _ z => nomatch z⟩
    | str y => obtain ⟨t, rfl⟩ := rx; exact .inl ⟨rfl, fun _ z => nomatch z⟩
    | flt y => obtain ⟨t, rfl⟩ := rx; exact .inl ⟨rfl, fun _ z => nomatch z⟩
    | @lst a xs ea =>
      cases (show u = Value.ref a from rx)
      obtain ⟨_, _, n, _, h1⟩ := (show ObjOk X.prog X.w H s.heap a (.lst xs) from I.hok a _ ea)
      exact .inr ⟨a, rfl, _, h1, rfl⟩
    | @frz a ob xs ea =>
      cases (show u = Value.ref a from rx)
      obtain ⟨_, _, _, n, _, h1⟩ := (show ObjOk X.prog X.w H s.heap a (.frz ob (.lst xs)) from I.hok a _ ea)
      exact .inr ⟨a, rfl, _, h1, rfl⟩
    | @tup a xs ea =>
      cases (show u = Value.ref a from rx)
      obtain ⟨_, _, _, o, h1, h2, _⟩ := (show ObjOk X.prog X.w H s.heap a (.tup xs) from I.hok a _ ea)
      exact .inr ⟨a, rfl, o, h1, h2⟩
    | @dK a kvs ea =>
      cases (show u = Value.ref a from rx)
      obtain ⟨_, _, vs, _, o, es, ep, h1, h2, _⟩ := (show ObjOk X.prog X.w H s.heap a (.dK kvs) from I.hok a _ ea)
      exact .inr ⟨a, rfl, o, h1, h2.1⟩
    | @dT a kvs ea =>
      cases (show u = Value.ref a from rx)
      obtain ⟨_, _, xs, _, o, es, ep, h1, h2, _⟩ := (show ObjOk X.prog X.w H s.heap a (.dT kvs) from I.hok a _ ea)
      exact .inr ⟨a, rfl, o, h1, h2.1⟩
  | byt y => obtain ⟨t, rfl⟩ := rx; exact .inl ⟨rfl, fun _ z => nomatch z⟩
  | @set a S n ea =>
    cases (show u = Value.ref a from rx)
    obtain ⟨o, _, _, _, e, ex, _⟩ := I.hok a _ ea
    exact .inr ⟨a, rfl, o, e, ex.1⟩
  | @kList a o e c => cases (show u = Value.ref a from rx); exact .inr ⟨a, rfl, o, I.kIn a o e, c⟩
  | @kTuple a o e c => cases (show u = Value.ref a from rx); exact .inr ⟨a, rfl, o, I.kIn a o e, c⟩
  | @kDict a o e c => cases (show u = Value.ref a from rx); exact .inr ⟨a, rfl, o, I.kIn a o e, c⟩
  | @fTuple a ob xs ea =>
    cases (show u = Value.ref a from rx)
    obtain ⟨_, _, _, _, o, h1, h2, _⟩ := (show ObjOk X.prog X.w H s.heap a (.frz ob (.tup xs)) from I.hok a _ ea)
    exact .inr ⟨a, rfl, o, h1, h2⟩
  | @fDict a ob kvs ea =>
    cases (show u = Value.ref a from rx)
    obtain ⟨_, _, _, vs, _, o, es, ep, h1, h2, _⟩ := (show ObjOk X.prog X.w H s.heap a (.frz ob (.dK kvs)) from I.hok a _ ea)
    exact .inr ⟨a, rfl, o, h1, h2.1⟩
theorem call_type : CallR X (.type "type") (rTyp X.K) := by
  intro pins s σ H xs us Q I r h
  obtain ⟨x, T, rfl, ty, nb, q⟩ := h
  cases r with
  | cons rx rr =>
    cases rr
    rename_i u
    rcases ty_at I rx ty with ⟨e, ne⟩ | ⟨a, rfl, p⟩
    · refine call_type_val ?_ ?_ ⟨.ty T, H, I, rfl, q⟩
      · unfold shownTypeOf
        rw [e, pure_bind, nb]
        rfl
      · cases x <;> first | (obtain ⟨t, rfl⟩ := rx; rfl) | (cases rx; rfl)
    · exact PySem.W.kto_cont p nb ⟨.ty T, H, I, rfl, q⟩
end
end Own
/-! A caught error that is kept beyond its suite: try: .. except X as e: m = e. -/
namespace Own
open PySem PySem.Spec PyProof.Rows L2
/-- a caught error of the class cls, held at a -/
def CauE (cls : Value) (d : Option Addr) (a : Addr) : HO := .ext fun h => ∃ (oe : Obj) (vs : Array Value), h.get? a = some oe ∧ Zc cls d oe ∧ oe.data = .fields vs
theorem cauE_ok {P : Program} {w : World} {H : Hp} {h : Heap} {a : Addr} {cls : Value} {d : Option Addr} {oe : Obj} {vs : Array Value} (e : h.get? a = some oe) (z : Zc cls d oe) (hd : oe.data = .fields vs) : ObjOk P w H h a (CauE cls d a) :=
  ⟨⟨oe, vs, e, z, hd⟩, ⟨oe, e⟩, fun _ _ ⟨o, v, q, r⟩ k => ⟨o, v, k o q, r⟩⟩
section
variable {X : Cx} {pins : List (Addr × Obj)} {σ : L2.St} {H : Hp} {s : Shared}
/-- what a suite holds fast is tracked from now on -/
theorem inv_held {a : Addr} {oe : Obj} {vs : Array Value} {cls : Value} {d : Option Addr} (I : Inv (X.suite a ((a, oe) :: (X.pn ++ pins))) [] σ H s) (ok : X.Ok) (n0 : X.s_0.heap.get? a = none) (np : ∀ p ∈ X.pn ++ pins, p.1 ≠ a) (hz : Zc cls d oe) (hd : oe.data = .fields vs) :
    Inv X pins σ (upd H a (CauE cls d a)) s := by
  obtain ⟨ha, na, nL, nF, _⟩ := I.pin (a, oe) (List.mem_append.mpr (.inl List.mem_cons_self))
  have no : ∀ {b : Addr} {o : HO}, H b = some o → b ≠ a := fun e z => by
    have na' : H a = none := na
    rw [z, na'] at e
    cases e
  have fr : ∀ {b : Addr}, b ≠ a → H b = none → upd H a (CauE cls d a) b = none := fun hb e => by rw [upd_ne hb]; exact e
  have go : ∀ {b : Addr} {o : HO}, H b = some o → upd H a (CauE cls d a) b = some o := fun e => by rw [upd_ne (no e)]; exact e
  refine ⟨ok, I.os, I.bare, ⟨I.base.keep, I.base.slot, fun b o e n hx => fr (fun z => ?_) (I.base.free b o e n hx), I.base.there, fun b xs e => go (I.base.tups b xs e), fun b o u e => go (I.base.frzs b o u e), fun b ps e => ?_⟩, I.loc, I.cell, fr (Ne.symm nL) I.free, fun x c e => fr (fun z => ?_) (I.freeC x c e), fun p hp => ?_, fun b u e => ?_, I.len⟩
  · have e' : X.s_0.heap.get? b = some o := e
    rw [z, n0] at e'
    cases e'
  · obtain ⟨m, q⟩ := I.base.tbls b ps e
    exact ⟨m, go q⟩
  · obtain ⟨v, o, ho, hv⟩ := I.cell x c e
    have ha' : s.heap.get? a = some oe := ha
    rw [z, ha'] at ho
    cases ho
    rw [hd] at hv
    cases hv
  · obtain ⟨e, n, ne, nf, dd⟩ := I.pin p (List.mem_append.mpr (.inl (List.mem_cons_of_mem _ hp)))
    exact ⟨e, fr (np p hp) n, ne, nf, dd⟩
  · by_cases hb : b = a
    · subst hb
      rw [upd_same] at e
      cases e
      exact cauE_ok ha hz hd
    · rw [upd_ne hb] at e
      exact (I.hok b u e).stay (fun c v _ q => q) (fun c q => go q) fun c xs q => go q
end
/-- as L2.wAs, but the error is held beyond the suite -/
def wKp (K : PySem.W.Frag) (c : Value) (i : Nat) (ts : Addr → Value → Option Addr → TS) (Wout : WX) (D : Ends) : WX := fun cls d σ H =>
  ∃ b, PySem.W.exmOne K cls c = some b ∧ (b = true → ∀ a, H a = none → ts a cls d { nx := fun σ' H' => D.nx (σ'.set i none) (upd H' a (CauE cls d a)), rt := fun v H' => D.rt v (upd H' a (CauE cls d a)), bk := fun σ' H' => D.bk (σ'.set i none) (upd H' a (CauE cls d a)), ct := fun σ' H' => D.ct (σ'.set i none) (upd H' a (CauE cls d a)) } (σ.set i (some (.ref a))) H) ∧
    (b = false → Wout cls d σ H)
section
variable {X : Cx} {x n : Str} {c : Value} {i : Nat} {body suite : List Stmt} {b₀ : Stmt} {np pos pos' : Pos} {tb : WX → TS} {ts : Addr → Value → Option Addr → TS} {Wout : WX}
theorem ps_try_keep (hs : X.stack = X.env :: X.outer) (hf : X.env.frame = some X.env.locals) (hN : X.N.Nodup) (hi : X.N[i]? = some n) (hln : X.env.kindOf n = some .local) (hex : X.ex = []) (hc : Names X x c) (tk : Takes X Wout)
    (hb : ∀ (W : WX) (pn : List (Addr × Obj)) (xe : Value → Shared → Prop), Takes (X.tr pn xe) W → PassesOwn (model X.prog X.w) X.A X.env xe → PSs (X.tr pn xe) body (tb W))
    (hsu : ∀ (a : Addr) (oe : Obj) (cls : Value) (d : Option Addr) (pn : List (Addr × Obj)), Zc cls d oe → (∃ vs, oe.data = .fields vs) → PSs (X.suite a ((a, oe) :: pn)) (b₀ :: suite) (ts a cls d)) :
    PS X (.Try body [.ExceptHandler (some (.Name x np)) (some n) (b₀ :: suite) pos'] [] [] pos) (fun D σ H => tb (wKp X.K c i ts Wout D) D σ H) := by
  refine ⟨fun pins s σ H D I h => ?_⟩
  have ok := I.ok
  have hfr : X.A.frames = some (X.env :: X.outer) := by rw [ok.frames, hs]
  have hloc : Loc X.env.scope n := .inl hln
  have step := (hb (wKp X.K c i ts Wout D) (X.pn ++ pins) (fun e s₁ => wpAny (model X.prog X.w) X.A (noteFrame e X.env) (fun _ s₂ => wpAny (model X.prog X.w) X.A (setFlight e none) (fun _ s₃ =>
    wpAny (model X.prog X.w) X.A (handleBy e X.env [.ExceptHandler (some (.Name x np)) (some n) (b₀ :: suite) pos']) (SP X pins D) X.xe s₃) X.xe s₂) X.xe s₁) (fun u s' xx => ?_) PassesOwn.looking).run [] s σ H D (I.toTry _) h
  · refine wpAny_Try_except (wpAny_mono step (fun f s1 hsp => ?_) fun e s1 he => he)
    cases f with
    | next =>
      obtain ⟨σ1, H1, J1, q⟩ := hsp
      exact wpAny_execs_nil ⟨σ1, H1, J1.ofTry ok, q⟩
    | ret u =>
      obtain ⟨v, σ1, H1, J1, r, q⟩ := hsp
      exact ⟨v, σ1, H1, J1.ofTry ok, r, q⟩
    | brk =>
      obtain ⟨σ1, H1, J1, q⟩ := hsp
      exact ⟨σ1, H1, J1.ofTry ok, q⟩
    | cont =>
      obtain ⟨σ1, H1, J1, q⟩ := hsp
      exact ⟨σ1, H1, J1.ofTry ok, q⟩
  · obtain ⟨a, B, sI, pins1, σ1, H1, cls, d, rfl, J1, nb, up, sky, na, os, ag, b, hb1, hyes, hno⟩ := xx
    have J : Inv X pins σ1 H1 sI := J1.ofTry ok
    rw [show (X.tr (X.pn ++ pins) _).stack = X.env :: X.outer from hs] at sky
    show wpAny (model X.prog X.w) X.A (noteFrame (.ref a) X.env) _ _ _
    refine Sky.land Zc.steady hfr hf sky fun h2 fl2 up2 => ?_
    obtain ⟨o2, vs2, ge2, hz2, hd2⟩ := fl2.there
    have nfr : a ∉ frs (X.env :: X.outer) := fun hm => by
      obtain ⟨_, o', e', hnf⟩ := fl2.2.2.1.mem hm
      rw [ge2] at e'
      cases e'
      exact hnf _ hd2
    have nL : a ≠ X.env.locals := fun z => nfr (List.mem_filterMap.mpr ⟨X.env, List.mem_cons_self, by rw [hf, z]⟩)
    have nF : a ∉ X.fs := fun hm => by
      obtain ⟨ev, he, q⟩ := List.mem_filterMap.mp hm
      exact nfr (List.mem_filterMap.mpr ⟨ev, List.mem_cons_of_mem _ he, q⟩)
    -- a is new: the heap without the exception doesn't have it
    have nI : sI.heap.get? a = none := by
      cases e : sI.heap.get? a with
      | none => rfl
      | some o =>
        have z := nb a o e (by show a ∉ frs X.stack; rw [hs]; exact nfr)
        rw [fl2.2.1] at z
        cases z
    have n0 : X.s_0.heap.get? a = none := by
      cases e : X.s_0.heap.get? a with
      | none => rfl
      | some o =>
        obtain ⟨o', z⟩ := J.base.there a o e (by rw [hex]; exact fun z => nomatch z)
        rw [nI] at z
        cases z
    have npn : ∀ p ∈ X.pn ++ pins, p.1 ≠ a := fun p hp z => by
      have q := (J.pin p hp).1
      rw [z, nI] at q
      cases q
    have land : ∀ {h' : Heap}, B.StaysIn h' → sI.heap.UpToSlots h' → Inv X pins σ1 H1 { s' with heap := h' } := fun st u => J.landed nb st u os ag
    have S2 := (land fl2.1 (up.trans up2)).suite ge2 hd2 na nL nF
    have LT : PySem.W.Looks (model X.prog X.w) h2 (typeOf (.ref a)) cls := fun A Q E s k q => wpAny_typeOf_ref (k _ _ ge2) (by rw [hz2.1]; exact q)
    have LM := PySem.W.exm_one (M := model X.prog X.w) (land fl2.1 (up.trans up2)).kIn LT hb1
    refine wpAny_handleBy_cons (codeAny_handlers_test ?_) (by intro q; cases q)
    have test : ∀ {Q : Value → Shared → Prop} {E : Value → Shared → Prop}, Q c { s' with heap := h2 } → wpAny (model X.prog X.w) (X.A.mark (some (.ref a))) (eval (.Name x np) X.env) Q E { s' with heap := h2 } := fun {Q E} q => by
      obtain ⟨hg, hdbg, hm | ⟨hm, hv, hnn⟩⟩ := hc
      · exact ld_glob (X := X.suite a ((a, o2) :: (X.pn ++ pins))) S2 hg hm q hdbg
      · exact ld_blt (X := X.suite a ((a, o2) :: (X.pn ++ pins))) S2 hg hm hv q hnn hdbg
    refine test (LM.here ?_)
    cases b with
    | false =>
      show wpAny _ X.A (handleBy (.ref a) X.env []) _ _ _
      refine wpAny_handleBy_nil ?_
      obtain ⟨_, _, _, oe, vs, T, oT, ts1, he, _, hd, h1, _⟩ := id fl2
      unfold PySem.passOn
      refine wpAny_bind (wpAny_field he hd h1 ?_)
      rw [if_neg (show ¬ ((Value.ref T == Value.none) = true) from by simp)]
      have fin : wpAny (model X.prog X.w) X.A (setFlight (.ref a) X.env.frame) (fun _ s4 => wpAny (model X.prog X.w) X.A (throw (.ref a) : Sem Flow) (SP X pins D) X.xe s4) X.xe { s' with heap := h2 } := by
        rw [hf]
        refine HandSPX.setFlight_upZ fl2 fun h4 hh4 up4 => wpAny_throw (tk _ _ ⟨a, B, sI, pins, σ1, H1, cls, d, rfl, J, nb, (up.trans up2).trans up4, .inr (.inr ?_), na, os, ag, hno rfl⟩)
        rw [hs]
        exact hh4
      first
        | exact wpAny_bind (wpAny_pure (wpAny_bind fin))
        | exact wpAny_bind fin
    | true =>
      refine codeAny_handlers_suite_as (HandSPX.lands_againZ fl2 fun h3 fl3 up3 => ?_)
      obtain ⟨o3, vs3, ge3, hz3, hd3⟩ := fl3.there
      have S3 := (land fl3.1 ((up.trans up2).trans up3)).suite ge3 hd3 na nL nF
      refine store_ok (X := X.suite a ((a, o3) :: (X.pn ++ pins))) (v := .ref a) S3 hN hi hloc rfl (fun s5 S5 => ?_) (.inr hln)
      refine wpAny_mono ((hsu a o3 cls d (X.pn ++ pins) hz3 ⟨_, hd3⟩).run [] s5 _ H1 _ S5 (hyes rfl a na)) (fun f s6 hsp => ?_) fun _ _ z => False.elim z
      have done : ∀ {σ6 : L2.St} {H6 : Hp} {Q : Shared → Prop}, Inv (X.suite a ((a, o3) :: (X.pn ++ pins))) [] σ6 H6 s6 → (∀ s7, Inv X pins (σ6.set i none) (upd H6 a (CauE cls d a)) s7 → Q s7) →
          wpAny (model X.prog X.w) X.A (do bindName X.env n .none; unbindBehindTheSuite X.env n pos') (fun _ s7 => Q s7) X.xe s6 := fun S6 hq => gone_ok (inv_held S6 ok n0 npn hz3 hd3) hN hi hln hq
      cases f with
      | next =>
        obtain ⟨σ6, H6, S6, q⟩ := hsp
        exact done S6 fun s7 J7 => ⟨_, _, J7, q⟩
      | ret u =>
        obtain ⟨v, σ6, H6, S6, r, q⟩ := hsp
        exact done S6 fun s7 J7 => ⟨_, _, _, J7, r, q⟩
      | brk =>
        obtain ⟨σ6, H6, S6, q⟩ := hsp
        exact done S6 fun s7 J7 => ⟨_, _, J7, q⟩
      | cont =>
        obtain ⟨σ6, H6, S6, q⟩ := hsp
        exact done S6 fun s7 J7 => ⟨_, _, J7, q⟩
end
/-- isinstance(v, C), v None or a caught error without a dict -/
def rIsC (K : PySem.W.Frag) : List V → Hp → VK → Prop := fun xs H Q => ∃ (v c : V) (cv : Value) (b : Bool), xs = [v, c] ∧ ClsV c cv ∧
  ((v = .non ∧ PySem.W.kitOne K (.type "NoneType") cv = some b) ∨ ∃ a D, v = .ref a ∧ H a = some (CauE (.ref D) none a) ∧ ExcC K D ∧ PySem.W.kitOne K (.ref D) cv = some b) ∧ Q (.bl b) H
theorem call_isC {X : Cx} : CallR X (.builtin "isinstance") (rIsC X.K) := by
  intro pins s σ H xs us Q I r h
  obtain ⟨v, c, cv, b, rfl, hcv, hv, q⟩ := h
  obtain ⟨u1, u2, rfl, r1, r2⟩ := vals2 r
  cases hcv.eq r2
  rcases hv with ⟨rfl, e⟩ | ⟨a, D, rfl, ea, C, e⟩
  · cases (show u1 = Value.none from r1)
    exact PySem.W.kia_one PySem.W.kitx_none I.kIn True.intro e (fun z => nomatch z) fun tk => ⟨.bl b, H, I.tok tk, rfl, q⟩
  · cases (show u1 = Value.ref a from r1)
    obtain ⟨oe, vs, ho, hz, hd⟩ := (I.hok a _ ea).1
    have J : PySem.W.InstAt s.heap a oe D none := by
      obtain ⟨oc, od, oda, osl⟩ := oe
      obtain ⟨h1, h2⟩ := hz
      dsimp only at h1 h2 hd
      subst h1 h2 hd
      exact ⟨ho, rfl, rfl, trivial⟩
    obtain ⟨cd, hcd, _⟩ := PySem.W.any_some C.hd
    exact PySem.W.kia_one (PySem.W.kitx_exc (by rw [hcd]; rfl) C.hg C.hk C.hs C.ha C.hn C.ht C.hm) I.kIn J e (fun z => nomatch z) fun tk => ⟨.bl b, H, I.tok tk, rfl, q⟩
end Own
/-! The program's widths, hashes, buckets. -/
namespace Own
open PySem PySem.Spec PyProof.Rows L2
def top1 (i : Nat) : Stmt := PySem.Challenge.pw_seencursors_k01_bits_and_shapes.main.body.getD i (.Pass ⟨0, 0, 0, 0⟩)
abbrev sInt : Stmt := top1 9
abbrev sNum : Stmt := top1 10
abbrev sWid : Stmt := top1 11
abbrev sHsh : Stmt := top1 12
abbrev sChk : Stmt := top1 13
abbrev sBuc : Stmt := top1 14
/-- the type of data -/
def tyD : PyData → String
  | .none => "NoneType"
  | .bool _ => "bool"
  | .int _ => "int"
  | .str _ => "str"
  | .list _ => "list"
  | .tuple _ => "tuple"
  | .dict _ => "dict"
theorem Dv.ty {K : PySem.W.Frag} {H : Hp} {v : V} {d : PyData} (h : Dv K H v d) : TyX K H v (.type (tyD d)) := by
  cases h with
  | non => exact .base .non
  | bl b => exact .base (.bl b)
  | int i => exact .base (.int i)
  | str x => exact .base (.str x)
  | lst h _ =>
    rcases h with (h | ⟨o, h⟩) | ⟨o, _, _, hk, hc, _⟩
    · exact .base (.lst h)
    · exact .base (.frz h)
    · exact .kList hk hc
  | tup h _ =>
    rcases h with (h | ⟨o, h⟩) | ⟨o, _, _, hk, hc, _⟩
    · exact .base (.tup h)
    · exact .fTuple h
    · exact .kTuple hk hc
  | dct h _ => exact .base (.dK h)
def isI : PyData → Bool
  | .bool _ => true
  | .int _ => true
  | _ => false
theorem kit_int (d : PyData) : kitB (tyD d) "int" = some (isI d) := by
  cases d with
  | none => exact (by decide +kernel : kitB "NoneType" "int" = some false)
  | bool _ => exact (by decide +kernel : kitB "bool" "int" = some true)
  | int _ => exact (by decide +kernel : kitB "int" "int" = some true)
  | str _ => exact (by decide +kernel : kitB "str" "int" = some false)
  | list _ => exact (by decide +kernel : kitB "list" "int" = some false)
  | tuple _ => exact (by decide +kernel : kitB "tuple" "int" = some false)
  | dict _ => exact (by decide +kernel : kitB "dict" "int" = some false)
def isB : PyData → Bool
  | .bool _ => true
  | _ => false
theorem kit_bool (d : PyData) : kitB (tyD d) "bool" = some (isB d) := by
  cases d with
  | none => exact (by decide +kernel : kitB "NoneType" "bool" = some false)
  | bool _ => exact (by decide +kernel : kitB "bool" "bool" = some true)
  | int _ => exact (by decide +kernel : kitB "int" "bool" = some false)
  | str _ => exact (by decide +kernel : kitB "str" "bool" = some false)
  | list _ => exact (by decide +kernel : kitB "list" "bool" = some false)
  | tuple _ => exact (by decide +kernel : kitB "tuple" "bool" = some false)
  | dict _ => exact (by decide +kernel : kitB "dict" "bool" = some false)
def isT : PyData → Bool
  | .tuple _ => true
  | _ => false
theorem kit_tuple (d : PyData) : kitB (tyD d) "tuple" = some (isT d) := by
  cases d with
  | none => exact (by decide +kernel : kitB "NoneType" "tuple" = some false)
  | bool _ => exact (by decide +kernel : kitB "bool" "tuple" = some false)
  | int _ => exact (by decide +kernel : kitB "int" "tuple" = some false)
  | str _ => exact (by decide +kernel : kitB "str" "tuple" = some false)
  | list _ => exact (by decide +kernel : kitB "list" "tuple" = some false)
  | tuple _ => exact (by decide +kernel : kitB "tuple" "tuple" = some true)
  | dict _ => exact (by decide +kernel : kitB "dict" "tuple" = some false)
/-- data that is an int (no bool) within bounds -/
def numIn (lo hi : Int) : PyData → Bool
  | .int i => decide (lo ≤ i) && decide (i ≤ hi)
  | _ => false
theorem numIn_some {lo hi : Int} {d : PyData} (h : numIn lo hi d = true) : ∃ i, d = .int i ∧ lo ≤ i ∧ i ≤ hi := by
  cases d with
  | int i =>
    have h' : (decide (lo ≤ i) && decide (i ≤ hi)) = true := h
    rw [Bool.and_eq_true, decide_eq_true_iff, decide_eq_true_iff] at h'
    exact ⟨i, rfl, h'.1, h'.2⟩
  | _ => cases h
theorem Dv.int_inv {K : PySem.W.Frag} {H : Hp} {v : V} {i : Int} (h : Dv K H v (.int i)) : v = .int i := by
  cases h; rfl
/-- what one def does, where it stands -/
def Cal (P : Program) (w : World) (K : PySem.W.Frag) (mg : Str → Option Value) (base : Heap) (CX : CXT) (k : Nat) (x : Str) (ps : List Str) (sp : Sp) : Prop :=
  ∃ (f : Addr) (fd : FuncData), FnOk P w K mg base CX k f fd ps sp ∧ mg x = some (.ref f) ∧ PySem.W.keepIn K (.ref f) = true ∧ Binds K fd ps []
/-- what the module's end says of an error's class without an own __init__ -/
structure ErC (K : PySem.W.Frag) (mg : Str → Option Value) (x : Str) (C : Addr) : Prop where
  q : PySem.W.excIn K C [.type "ValueError", .type "Exception", .type "BaseException", .type "object"] "ValueError.__new__" = true
  g : mg x = some (.ref C)
  k : PySem.W.keepIn K (.ref C) = true
  b : PySem.W.subIn K (.ref C) (.type "BaseException") = some true
  t : PySem.W.typeIn K (.ref C) = some (.type "type")
structure Bi1 (mg : Str → Option Value) : Prop where
  type : mg "type" = none
  isinstance : mg "isinstance" = none
  int : mg "int" = none
  bool : mg "bool" = none
  tuple : mg "tuple" = none
  len : mg "len" = none
  all : mg "all" = none
  repr : mg "repr" = none
  enumerate : mg "enumerate" = none
  range : mg "range" = none
/-- data that is an int, no bool -/
def isJ : PyData → Bool
  | .int _ => true
  | _ => false
theorem tyD_nb (d : PyData) : (Value.type (tyD d) == Value.type "builtin_function_or_method") = false := by
  have h : tyD d ≠ "builtin_function_or_method" := by cases d <;> simp [tyD]
  exact beq_eq_false_iff_ne.mpr fun z => h (Value.type.inj z)
def spInt (K : PySem.W.Frag) : Sp := fun vs H Q _ => ∃ (v : V) (d : PyData), vs = [v] ∧ Dv K H v d ∧ Q (.bl (isJ d)) H
def spNum (K : PySem.W.Frag) : Sp := fun vs H Q _ => ∃ (v : V) (d : PyData) (lo hi : Int), vs = [v, .int lo, .int hi] ∧ Dv K H v d ∧ Q (.bl (numIn lo hi d)) H
def spIn (K : PySem.W.Frag) (lo hi : Int) : Sp := fun vs H Q _ => ∃ (v : V) (d : PyData), vs = [v] ∧ Dv K H v d ∧ Q (.bl (numIn lo hi d)) H
def spChk (K : PySem.W.Frag) (C : Addr) : Sp := fun vs H Q E => ∃ (v : V) (d : PyData), vs = [v] ∧ Dv K H v d ∧ (numIn 0 31 d = true → Q .non H) ∧ (numIn 0 31 d = false → E (.ref C) none H)
def spBuc (K : PySem.W.Frag) (cW cH : Addr) : Sp := fun vs H Q E => ∃ (v u : V) (d e : PyData), vs = [v, u] ∧ Dv K H v d ∧ Dv K H u e ∧ (numIn 0 5 e = false → E (.ref cW) none H) ∧ (numIn 0 5 e = true → numIn 0 31 d = false → E (.ref cH) none H) ∧
  ∀ c m : Int, d = .int c → e = .int m → 0 ≤ c → c ≤ 31 → 0 ≤ m → m ≤ 5 → Q (.int (c % 2 ^ m.toNat)) H
section
variable {P : Program} {w : World} {K : PySem.W.Frag} {mg : Str → Option Value} {base : Heap}
theorem sc_num : FnScope ["thing", "least", "most"] ["thing", "least", "most"] (defScope sNum) := ⟨rfl, rfl, rfl, by decide +kernel, rfl, by decide +kernel, by decide +kernel⟩
theorem sc_int : FnScope ["thing"] ["thing"] (defScope sInt) := ⟨rfl, rfl, rfl, by decide +kernel, rfl, by decide +kernel, by decide +kernel⟩
theorem isJ_ty (d : PyData) : decide (tyD d = "int") = isJ d := by
  cases d <;> simp [tyD, isJ]
abbrev CalInt (P : Program) (w : World) (K : PySem.W.Frag) (mg : Str → Option Value) (base : Heap) : Prop := Cal P w K mg base CX0 1 "is_int" ["thing"] (spInt K)
theorem ok_int {f : Addr} {fd : FuncData} (F : Fun K "is_int" "is_int" sInt f fd) (T : Bi1 mg) : FnOk P w K mg base CX0 1 f fd ["thing"] (spInt K) := by
  refine F.ok sc_int (fun vs H Q E h => ?_) (fun cdv A outer s H vs Q E hr h => ?_)
  · obtain ⟨v, d, rfl, _⟩ := h
    rfl
  · obtain ⟨v, d, rfl, hd, k⟩ := h
    refine ⟨_, (pss_one (ps_ret (pe_cmpR op_is_ty (pe_callTy call_type (by rfl) T.type (by decide +kernel) (pa_cons (pv 0) pa_nil)) (pe_bltn (v := .ty "int") (by rfl) T.int (by decide +kernel) rfl) (nomark _)))), ?_⟩
    refine ⟨_, rfl, v, tyD d, rfl, hd.ty, tyD_nb d, _, _, rfl, rfl, ?_⟩
    rw [isJ_ty]
    exact k
theorem ok_num {f : Addr} {fd : FuncData} (F : Fun K "is_number" "is_number" sNum f fd) (C : CalInt P w K mg base) : FnOk P w K mg base CX0 2 f fd ["thing", "least", "most"] (spNum K) := by
  obtain ⟨fI, fdI, GI, gI, kI, bI⟩ := C
  refine F.ok sc_num (fun vs H Q E h => ?_) (fun cdv A outer s H vs Q E hr h => ?_)
  · obtain ⟨v, d, lo, hi, rfl, _⟩ := h
    rfl
  · obtain ⟨v, d, lo, hi, rfl, hd, k⟩ := h
    refine ⟨_, (pss_one (ps_ret (pe_and (pe_call GI hr (by rfl) gI kI bI .nil pass0 (pa_cons (pv 0) pa_nil)) (pe_one (pe_chain op_le op_le (pv 1) (pv 0) (pv 2)))))), ?_⟩
    refine ⟨_, rfl, v, d, rfl, hd, _, rfl, ?_⟩
    refine ite2 (fun h1 => ?_) (fun h1 => ?_)
    · obtain ⟨i, rfl⟩ : ∃ i, d = .int i := by
        cases d with
        | int i => exact ⟨i, rfl⟩
        | _ => cases h1
      obtain rfl := hd.int_inv
      refine ⟨_, rfl, _, rfl, _, _, rfl, rfl, _, rfl, ?_⟩
      have e : numIn lo hi (.int i) = (decide (lo ≤ i) && decide (i ≤ hi)) := rfl
      rw [e] at k
      refine ite2 (fun h3 => ?_) (fun h3 => ?_)
      · rw [h3, Bool.true_and] at k
        exact ⟨_, rfl, _, _, rfl, rfl, k⟩
      · rw [Bool.eq_false_iff.mpr h3, Bool.false_and] at k
        exact k
    · have e : numIn lo hi d = false := by
        cases d with
        | int i => exact absurd rfl h1
        | _ => rfl
      rw [e] at k
      exact k
theorem sc_wid : FnScope ["thing"] ["thing"] (defScope sWid) := ⟨rfl, rfl, rfl, by decide +kernel, rfl, by decide +kernel, by decide +kernel⟩
theorem sc_hsh : FnScope ["thing"] ["thing"] (defScope sHsh) := ⟨rfl, rfl, rfl, by decide +kernel, rfl, by decide +kernel, by decide +kernel⟩
abbrev CalNum (P : Program) (w : World) (K : PySem.W.Frag) (mg : Str → Option Value) (base : Heap) : Prop := Cal P w K mg base CX0 2 "is_number" ["thing", "least", "most"] (spNum K)
abbrev CalWid (P : Program) (w : World) (K : PySem.W.Frag) (mg : Str → Option Value) (base : Heap) : Prop := Cal P w K mg base CX0 3 "is_width" ["thing"] (spIn K 0 5)
abbrev CalHsh (P : Program) (w : World) (K : PySem.W.Frag) (mg : Str → Option Value) (base : Heap) : Prop := Cal P w K mg base CX0 3 "is_hash" ["thing"] (spIn K 0 31)
abbrev CalChk (P : Program) (w : World) (K : PySem.W.Frag) (mg : Str → Option Value) (base : Heap) (cH : Addr) : Prop := Cal P w K mg base (L2.CX P w) 4 "check_hash" ["code"] (spChk K cH)
theorem ok_wid {f : Addr} {fd : FuncData} (F : Fun K "is_width" "is_width" sWid f fd) (C : CalNum P w K mg base) (gM : ∃ t, mg "MOST_WIDTH" = some (.int 5 t)) : FnOk P w K mg base CX0 3 f fd ["thing"] (spIn K 0 5) := by
  obtain ⟨fN, fdN, GN, gN, kN, bN⟩ := C
  obtain ⟨tM, gM⟩ := gM
  refine F.ok sc_wid (fun vs H Q E h => ?_) (fun cdv A outer s H vs Q E hr h => ?_)
  · obtain ⟨v, d, rfl, _⟩ := h
    rfl
  · obtain ⟨v, d, rfl, hd, k⟩ := h
    refine ⟨_, (pss_one (ps_ret (pe_call GN hr (by rfl) gN kN bN .nil pass0 (pa_cons (pv 0) (pa_cons (pe_int) (pa_cons (pe_glob (v := .int 5) (by rfl) gM ⟨_, rfl⟩) pa_nil)))))), ?_⟩
    exact ⟨_, rfl, v, d, 0, 5, rfl, hd, k⟩
theorem ok_hsh {f : Addr} {fd : FuncData} (F : Fun K "is_hash" "is_hash" sHsh f fd) (C : CalNum P w K mg base) (gM : ∃ t, mg "MOST_HASH" = some (.int 31 t)) : FnOk P w K mg base CX0 3 f fd ["thing"] (spIn K 0 31) := by
  obtain ⟨fN, fdN, GN, gN, kN, bN⟩ := C
  obtain ⟨tM, gM⟩ := gM
  refine F.ok sc_hsh (fun vs H Q E h => ?_) (fun cdv A outer s H vs Q E hr h => ?_)
  · obtain ⟨v, d, rfl, _⟩ := h
    rfl
  · obtain ⟨v, d, rfl, hd, k⟩ := h
    refine ⟨_, (pss_one (ps_ret (pe_call GN hr (by rfl) gN kN bN .nil pass0 (pa_cons (pv 0) (pa_cons (pe_int) (pa_cons (pe_glob (v := .int 31) (by rfl) gM ⟨_, rfl⟩) pa_nil)))))), ?_⟩
    exact ⟨_, rfl, v, d, 0, 31, rfl, hd, k⟩
theorem sc_chk : FnScope ["code"] ["code"] (defScope sChk) := ⟨rfl, rfl, rfl, by decide +kernel, rfl, by decide +kernel, by decide +kernel⟩
theorem ok_chk {f cH : Addr} {fd : FuncData} (F : Fun K "check_hash" "check_hash" sChk f fd) (C : CalHsh P w K mg base) (TInvalidHash : ErC K mg "InvalidHash" cH) : FnOk P w K mg base (L2.CX P w) 4 f fd ["code"] (spChk K cH) := by
  obtain ⟨fH, fdH, GH, gH, kH, bH⟩ := C
  refine F.okX sc_chk (fun vs H Q E h => ?_) (fun cdv A outer s H vs Q E hr h => ?_)
  · obtain ⟨v, d, rfl, _⟩ := h
    rfl
  · obtain ⟨v, d, rfl, hd, k1, k2⟩ := h
    refine ⟨_, (pss_one (ps_if (pt_not (pt_val (pe_call GH hr (by rfl) gH kH bH .nil pass0 (pa_cons (pv 0) pa_nil)))) (pss_one (ps_raise rfl (takes_of rfl rfl rfl rfl) (pmk_own PySem.F.excBase_ValueError TInvalidHash.q TInvalidHash.g TInvalidHash.k (raises_own TInvalidHash.b TInvalidHash.t) rfl))) pss_nil)), ?_⟩
    refine ⟨_, rfl, v, d, rfl, hd, _, rfl, ?_⟩
    cases e : numIn 0 31 d with
    | true => exact k1 e
    | false => exact k2 e
theorem sc_buc : FnScope ["code", "width"] ["code", "width"] (defScope sBuc) := ⟨rfl, rfl, rfl, by decide +kernel, rfl, by decide +kernel, by decide +kernel⟩
theorem ok_buc {f cH cW : Addr} {fd : FuncData} (F : Fun K "bucket" "bucket" sBuc f fd) (CW : CalWid P w K mg base) (CC : CalChk P w K mg base cH) (TInvalidWidth : ErC K mg "InvalidWidth" cW) : FnOk P w K mg base (L2.CX P w) 5 f fd ["code", "width"] (spBuc K cW cH) := by
  obtain ⟨fW, fdW, GW, gW, kW, bW⟩ := CW
  obtain ⟨fC, fdC, GC, gC, kC, bC⟩ := CC
  refine F.okX sc_buc (fun vs H Q E h => ?_) (fun cdv A outer s H vs Q E hr h => ?_)
  · obtain ⟨v, u, d, e, rfl, _⟩ := h
    rfl
  · obtain ⟨v, u, d, e, rfl, hd, he, k1, k2, k3⟩ := h
    have hrC : Room 4 _ := hr
    have hrW : Room 3 _ := hr.mono (by decide)
    refine ⟨_, (pss_cons (ps_if (pt_not (pt_val (pe_call GW hrW (by rfl) gW kW bW .nil pass0 (pa_cons (pv 1) pa_nil)))) (pss_one (ps_raise rfl (takes_of rfl rfl rfl rfl) (pmk_own PySem.F.excBase_ValueError TInvalidWidth.q TInvalidWidth.g TInvalidWidth.k (raises_own TInvalidWidth.b TInvalidWidth.t) rfl))) pss_nil)
        (pss_cons (ps_expr (pe_call GC hrC (by rfl) gC kC bC .nil (passes_call (takes_of rfl rfl rfl rfl) fun _ _ _ _ h => h) (pa_cons (pv 0) pa_nil)))
        (pss_one (ps_ret (pe_op op_modN (pv 0) (pe_op op_shl (pe_int) (pv 1))))))), ?_⟩
    refine ⟨_, rfl, u, e, rfl, he, _, rfl, ?_⟩
    cases q : numIn 0 5 e with
    | false => exact k1 q
    | true =>
      refine ⟨_, rfl, v, d, rfl, hd, fun z => ?_, fun z => k2 q z⟩
      obtain ⟨m, rfl, m0, m5⟩ := numIn_some q
      obtain ⟨c, rfl, c0, c9⟩ := numIn_some z
      obtain rfl := hd.int_inv
      obtain rfl := he.int_inv
      have p : (0 : Int) < 2 ^ m.toNat := Int.pow_pos (by decide)
      refine ⟨_, rfl, _, rfl, _, _, rfl, rfl, ⟨m0, by omega, by decide⟩, _, _, rfl, rfl, by omega, ?_⟩
      have e1 : c.fmod (1 * 2 ^ m.toNat) = c % 2 ^ m.toNat := by
        rw [Int.one_mul, Int.fmod_eq_emod_of_nonneg _ (Int.le_of_lt p)]
      show Q (.int (c.fmod (1 * 2 ^ m.toNat))) H
      rw [e1]
      exact k3 c m rfl rfl c0 c9 m0 m5
end
end Own
/-! The program's shapes. -/
namespace Own
open PySem PySem.Spec PyProof.Rows L2
abbrev sShp : Stmt := top1 16
abbrev sChs : Stmt := top1 17
abbrev sPlc : Stmt := top1 18
abbrev sIsp : Stmt := top1 19
abbrev sIsm : Stmt := top1 20
abbrev sPof : Stmt := top1 21
def intOf : PyData → Int
  | .int i => i
  | _ => 0
/-- data that is a shape -/
def isFig : PyData → Bool
  | .tuple [a] => numIn 0 5 a
  | .tuple [a, b] => numIn 0 5 a && numIn 0 5 b && decide (intOf a ≠ intOf b)
  | _ => false
theorem isT_some {d : PyData} (h : isT d = true) : ∃ ds, d = .tuple ds := by
  cases d with
  | tuple ds => exact ⟨ds, rfl⟩
  | _ => cases h
theorem Dv.tup_inv {K : PySem.W.Frag} {H : Hp} {v : V} {ds : List PyData} (h : Dv K H v (.tuple ds)) : ∃ a xs, v = .ref a ∧ SqT K H a xs ∧ DvAll K H xs ds := by
  cases h with
  | tup s r => exact ⟨_, _, rfl, s, r⟩
theorem DvAll.get {K : PySem.W.Frag} {H : Hp} : ∀ {vs : List V} {ds : List PyData} {i : Nat} {v : V}, DvAll K H vs ds → vs[i]? = some v → ∃ d, ds[i]? = some d ∧ Dv K H v d
  | _, _, 0, _, .cons h _, e => ⟨_, rfl, by cases e; exact h⟩
  | _, _, i + 1, _, .cons _ r, e => by
    have e' : _ = some _ := (List.getElem?_cons_succ ..).symm.trans e
    obtain ⟨d, h1, h2⟩ := DvAll.get r e'
    exact ⟨d, (List.getElem?_cons_succ ..).trans h1, h2⟩
theorem sqT_same {K : PySem.W.Frag} {H H' : Hp} {a : Addr} {xs : List V} (s : Same H H') (h : SqT K H a xs) : SqT K H' a xs := by
  rcases h with (h | ⟨o, h⟩) | h
  · exact .inl (.inl (s _ _ h))
  · exact .inl (.inr ⟨o, s _ _ h⟩)
  · exact .inr h
theorem sameN {H : Hp} {a : Addr} {o : HO} (h : H a = none) : Same H (upd H a o) := fun b u e => by
  rw [upd_ne (ne_of_none e h)]
  exact e
theorem fig_not {d : PyData} (h : isT d = false) : isFig d = false := by
  cases d with
  | tuple ds => cases h
  | _ => rfl
theorem fig_one {a : PyData} : isFig (.tuple [a]) = numIn 0 5 a := rfl
theorem fig_two {a b : PyData} : isFig (.tuple [a, b]) = (numIn 0 5 a && numIn 0 5 b && decide (intOf a ≠ intOf b)) := rfl
theorem fig_len {ds : List PyData} (h1 : ds.length ≠ 1) (h2 : ds.length ≠ 2) : isFig (.tuple ds) = false := by
  match ds, h1, h2 with
  | [], _, _ => rfl
  | [_], h1, _ => exact absurd rfl h1
  | [_, _], _, h2 => exact absurd rfl h2
  | _ :: _ :: _ :: _, _, _ => rfl
theorem iteNb {b : Bool} {A B : Prop} (e : b = false) (h : B) : if b = true then A else B := by
  rw [e]
  exact iteF h
theorem iteYb {b : Bool} {A B : Prop} (e : b = true) (h : A) : if b = true then A else B := by
  rw [e]
  exact iteT h
/-- what a list of bools is, so far -/
def bsT (f : PyData → Bool) (ds : List PyData) (i : Nat) : List V := (ds.take i).map fun d => V.bl (f d)
theorem bsT_more {f : PyData → Bool} {ds : List PyData} {i : Nat} {d : PyData} (h : ds[i]? = some d) : bsT f ds (i + 1) = bsT f ds i ++ [V.bl (f d)] := by
  obtain ⟨hl, e⟩ := List.getElem?_eq_some_iff.mp h
  unfold bsT
  rw [List.take_succ_eq_append_getElem hl, List.map_append, e]
  rfl
theorem bsT_all {f : PyData → Bool} {ds : List PyData} : bsT f ds ds.length = (ds.map f).map V.bl := by
  unfold bsT
  rw [List.take_length, List.map_map]
  rfl
def spShp (K : PySem.W.Frag) : Sp := fun vs H Q _ => ∃ (v : V) (d : PyData), vs = [v] ∧ Dv K H v d ∧ ∀ H', Same H H' → Q (.bl (isFig d)) H'
def spChs (K : PySem.W.Frag) (cS : Addr) : Sp := fun vs H Q E => ∃ (v : V) (d : PyData), vs = [v] ∧ Dv K H v d ∧ ∀ H', Same H H' → (isFig d = true → Q .non H') ∧ (isFig d = false → E (.ref cS) none H')
section
variable {P : Program} {w : World} {K : PySem.W.Frag} {mg : Str → Option Value} {base : Heap}
abbrev CalShp (P : Program) (w : World) (K : PySem.W.Frag) (mg : Str → Option Value) (base : Heap) : Prop := Cal P w K mg base CX0 4 "is_shape" ["thing"] (spShp K)
abbrev CalChs (P : Program) (w : World) (K : PySem.W.Frag) (mg : Str → Option Value) (base : Heap) (cS : Addr) : Prop := Cal P w K mg base (L2.CX P w) 5 "check_shape" ["shape"] (spChs K cS)
theorem sc_shp : FnScope ["thing"] ["thing"] (defScope sShp) := ⟨rfl, rfl, rfl, by decide +kernel, rfl, by decide +kernel, by decide +kernel⟩
theorem ok_shp {f : Addr} {fd : FuncData} (F : Fun K "is_shape" "is_shape" sShp f fd) (T : Bi1 mg) (CW : CalWid P w K mg base) : FnOk P w K mg base CX0 4 f fd ["thing"] (spShp K) := by
  obtain ⟨fW, fdW, GW, gW, kW, bW⟩ := CW
  refine F.ok sc_shp (fun vs H Q E h => ?_) (fun cdv A outer s H vs Q E hr h => ?_)
  · obtain ⟨v, d, rfl, _⟩ := h
    rfl
  · obtain ⟨v, d, rfl, hd, k⟩ := h
    refine ⟨_, (pss_cons (ps_if (PW.pt (pw_or (pt_not (pt_val (pe_callB call_isi (by rfl) T.isinstance (by decide +kernel) (pa_cons (pv 0) (pa_cons (pe_bltn (v := .ty "tuple") (by rfl) T.tuple (by decide +kernel) rfl) pa_nil))))) (pw_or1 (pt_cmpR op_notIn_seq (pe_callB call_len_seq (by rfl) T.len PySem.boot_len (pa_cons (pv 0) pa_nil)) (pe_tup (pa_cons (pe_int) (pa_cons (pe_int) pa_nil))) (by rfl))))) (pss_one (ps_ret (pe_bl))) pss_nil)
        (pss_cons (ps_if (pt_cmpR op_eq (pe_callB call_len_seq (by rfl) T.len PySem.boot_len (pa_cons (pv 0) pa_nil)) (pe_int) (nomark _)) (pss_one (ps_ret (pe_call GW hr (by rfl) gW kW bW .nil pass0 (pa_cons (pe_ix ix_tup (pv 0) (pe_int) (fun _ _ => rfl)) pa_nil)))) pss_nil)
        (pss_one (ps_ret (pe_and (pe_call GW hr (by rfl) gW kW bW .nil pass0 (pa_cons (pe_ix ix_tup (pv 0) (pe_int) (fun _ _ => rfl)) pa_nil)) (pe_and (pe_call GW hr (by rfl) gW kW bW .nil pass0 (pa_cons (pe_ix ix_tup (pv 0) (pe_int) (fun _ _ => rfl)) pa_nil)) (pe_one (pe_cmpR op_ne (pe_ix ix_tup (pv 0) (pe_int) (fun _ _ => rfl)) (pe_ix ix_tup (pv 0) (pe_int) (fun _ _ => rfl)) (nomark _))))))))), ?_⟩
    refine ⟨_, rfl, v, .ty "tuple", .type (tyD d), .type "tuple", _, rfl, .ty _, hd.ty, kit_ty (kit_tuple d), _, rfl, ?_⟩
    cases ht : isT d with
    | false =>
      have z := k H (Same.refl _)
      rw [fig_not ht] at z
      exact z
    | true =>
      obtain ⟨ds, rfl⟩ := isT_some ht
      obtain ⟨a, xs, rfl, ha, hx⟩ := hd.tup_inv
      have hlen := hx.len
      refine ⟨_, rfl, a, xs, rfl, .inr ha, by show 2 ≤ sizeLine; decide, fun t ht => ?_⟩
      have s1 : Same H (upd H t (.tup [.int 1, .int 2])) := sameN ht
      refine ⟨t, _, rfl, .inr (SqT.of upd_same), rfl, rfl, _, rfl, ?_⟩
      have ha1 := sqT_same s1 ha
      have hx1 := hx.same s1
      have kk := k _ s1
      generalize upd H t (.tup [.int 1, .int 2]) = H1 at s1 ha1 hx1 kk
      clear k hd
      match xs, ds, hx1, hlen with
      | [], [], _, _ => exact kk
      | [x], [d], .cons hd .nil, _ =>
        refine iteNb rfl ⟨_, rfl, a, _, rfl, .inr ha1, rfl, _, rfl, iteT ?_⟩
        exact ⟨_, rfl, a, _, 0, _, rfl, rfl, ha1, atI_nat (j := 0) rfl, x, d, rfl, hd, kk⟩
      | [x, y], [d, e], .cons hd (.cons he .nil), _ =>
        refine iteNb rfl ⟨_, rfl, a, _, rfl, .inr ha1, rfl, _, rfl, iteF ?_⟩
        refine ⟨_, rfl, a, _, 0, _, rfl, rfl, ha1, atI_nat (j := 0) rfl, x, d, rfl, hd, _, rfl, ?_⟩
        rw [fig_two] at kk
        cases q : numIn 0 5 d with
        | false =>
          rw [q] at kk
          exact iteF kk
        | true =>
          refine iteT ⟨_, rfl, a, _, 1, _, rfl, rfl, ha1, atI_nat (j := 1) rfl, y, e, rfl, he, _, rfl, ?_⟩
          cases q2 : numIn 0 5 e with
          | false =>
            rw [q2, Bool.and_false, Bool.false_and] at kk
            exact iteF kk
          | true =>
            rw [q, q2, Bool.and_true, Bool.true_and] at kk
            obtain ⟨i, rfl, _, _⟩ := numIn_some q
            obtain ⟨j, rfl, _, _⟩ := numIn_some q2
            obtain rfl := hd.int_inv
            obtain rfl := he.int_inv
            have e2 : decide (intOf (PyData.int i) ≠ intOf (PyData.int j)) = !decide (V.int i = V.int j) := by
              show decide (i ≠ j) = _
              by_cases h : i = j <;> simp [h]
            rw [e2] at kk
            exact iteT ⟨_, rfl, a, _, 0, _, rfl, rfl, ha1, atI_nat (j := 0) rfl, _, rfl, a, _, 1, _, rfl, rfl, ha1, atI_nat (j := 1) rfl, rfl, kk⟩
      | x :: y :: z :: xr, d :: e :: f :: dr, _, _ =>
        rw [fig_len (by simp) (by simp)] at kk
        have n1 : ¬ (1 : Int) = ((x :: y :: z :: xr).length : Nat) := by simp only [List.length_cons]; omega
        have n2 : ¬ (2 : Int) = ((x :: y :: z :: xr).length : Nat) := by simp only [List.length_cons]; omega
        have e1 : (!inV (.int ((x :: y :: z :: xr).length : Nat)) [V.int 1, V.int 2]) = true := by
          simp only [inV, eqV, List.any_cons, List.any_nil, n1, n2]
          simp only [List.length_cons] at n1 n2
          simp [eqV]
          omega
        exact iteYb e1 kk
theorem sc_chs : FnScope ["shape"] ["shape"] (defScope sChs) := ⟨rfl, rfl, rfl, by decide +kernel, rfl, by decide +kernel, by decide +kernel⟩
theorem ok_chs {f cS : Addr} {fd : FuncData} (F : Fun K "check_shape" "check_shape" sChs f fd) (C : CalShp P w K mg base) (TInvalidShape : ErC K mg "InvalidShape" cS) : FnOk P w K mg base (L2.CX P w) 5 f fd ["shape"] (spChs K cS) := by
  obtain ⟨fS, fdS, GS, gS, kS, bS⟩ := C
  refine F.okX sc_chs (fun vs H Q E h => ?_) (fun cdv A outer s H vs Q E hr h => ?_)
  · obtain ⟨v, d, rfl, _⟩ := h
    rfl
  · obtain ⟨v, d, rfl, hd, k⟩ := h
    refine ⟨_, (pss_one (ps_if (pt_not (pt_val (pe_call GS hr (by rfl) gS kS bS .nil pass0 (pa_cons (pv 0) pa_nil)))) (pss_one (ps_raise rfl (takes_of rfl rfl rfl rfl) (pmk_own PySem.F.excBase_ValueError TInvalidShape.q TInvalidShape.g TInvalidShape.k (raises_own TInvalidShape.b TInvalidShape.t) rfl))) pss_nil)), ?_⟩
    refine ⟨_, rfl, v, d, rfl, hd, fun H' s1 => ⟨_, rfl, ?_⟩⟩
    obtain ⟨k1, k2⟩ := k H' s1
    cases e : isFig d with
    | true => exact k1 e
    | false => exact k2 e
def movOk (n : Nat) : PyData → Bool
  | .bool b => !b || decide (n ≠ 1)
  | _ => false
def spIsm (K : PySem.W.Frag) : Sp := fun vs H Q _ => ∃ (a : Addr) (xs : List V) (t : V) (d : PyData), vs = [.ref a, t] ∧ SqT K H a xs ∧ Dv K H t d ∧ (xs.length = 1 ∨ xs.length = 2) ∧ ∀ H', Same H H' → Q (.bl (movOk xs.length d)) H'
theorem sc_ism : FnScope ["shape", "thing"] ["shape", "thing"] (defScope sIsm) := ⟨rfl, rfl, rfl, by decide +kernel, rfl, by decide +kernel, by decide +kernel⟩
theorem Dv.isb {K : PySem.W.Frag} {H : Hp} {t : V} {d : PyData} {b : Bool} (h : Dv K H t d) (e : t = .bl b) : d = .bool b := by
  subst e
  cases h
  rfl
theorem ok_ism {f : Addr} {fd : FuncData} (F : Fun K "is_move" "is_move" sIsm f fd) (T : Bi1 mg) : FnOk P w K mg base CX0 1 f fd ["shape", "thing"] (spIsm K) := by
  refine F.ok sc_ism (fun vs H Q E h => ?_) (fun cdv A outer s H vs Q E hr h => ?_)
  · obtain ⟨a, xs, t, d, rfl, _⟩ := h
    rfl
  · obtain ⟨a, xs, t, d, rfl, ha, hd, hl, k⟩ := h
    refine ⟨_, (pss_one (ps_ret (pe_or (pe_cmpR op_is_b (pv 1) pe_bl (nomark _)) (pe_one (pe_and (pe_cmpR op_is_b (pv 1) pe_bl (nomark _)) (pe_one (pe_cmpR op_eq (pe_callB call_len_seq (by rfl) T.len PySem.boot_len (pa_cons (pv 0) pa_nil)) (pe_int) (nomark _)))))))), ?_⟩
    have z := k H (Same.refl _)
    refine ⟨_, rfl, false, rfl, _, rfl, ?_⟩
    by_cases e : t = .bl false
    · obtain rfl := hd.isb e
      exact iteYb (decide_eq_true e) z
    · refine iteNb (decide_eq_false e) ?_
      refine ⟨_, rfl, true, rfl, _, rfl, ?_⟩
      by_cases e2 : t = .bl true
      · obtain rfl := hd.isb e2
        refine iteYb (decide_eq_true e2) ⟨_, rfl, a, xs, rfl, .inr ha, rfl, ?_⟩
        have e3 : movOk xs.length (.bool true) = decide (V.int (xs.length : Nat) = V.int 2) := by
          show (!true || decide (xs.length ≠ 1)) = _
          rcases hl with h | h <;> rw [h] <;> rfl
        rw [e3] at z
        exact z
      · have e3 : movOk xs.length d = false := by
          cases d with
          | bool b =>
            have e4 : t = .bl b := by cases hd; rfl
            cases b with
            | false => exact absurd e4 e
            | true => exact absurd e4 e2
          | _ => rfl
        rw [e3] at z
        exact iteNb (decide_eq_false e2) z
end
end Own
/-! The program's places. -/
namespace Own
open PySem PySem.Spec PyProof.Rows L2
/-- data that is a place of a shape -/
def isSpot : PyData → PyData → Bool
  | .tuple ws, .tuple [t, n] => numIn 0 ((ws.length : Int) - 1) t && numIn 0 (2 ^ (intOf (ws.getD (intOf t).toNat .none)).toNat - 1) n
  | _, _ => false
def spIsp (K : PySem.W.Frag) (cS : Addr) : Sp := fun vs H Q E => ∃ (v t : V) (d e : PyData), vs = [v, t] ∧ Dv K H v d ∧ Dv K H t e ∧ ∀ H', Same H H' → (isFig d = false → E (.ref cS) none H') ∧ (isFig d = true → Q (.bl (isSpot d e)) H')
/-- the place of a hash -/
def spotAt (ws : List PyData) (c : Int) (b : Bool) : List V := [.int (if b then 1 else 0), .int (c % 2 ^ (intOf (ws.getD (if b then 1 else 0) .none)).toNat)]
def lenD : PyData → Nat
  | .tuple ws => ws.length
  | _ => 0
def spPof (K : PySem.W.Frag) (cS cH cM : Addr) : Sp := fun vs H Q E => ∃ (v u m : V) (d e g : PyData), vs = [v, u, m] ∧ Dv K H v d ∧ Dv K H u e ∧ Dv K H m g ∧ ∀ H', Same H H' →
  (isFig d = false → E (.ref cS) none H') ∧ (isFig d = true → numIn 0 31 e = false → E (.ref cH) none H') ∧ (isFig d = true → numIn 0 31 e = true → movOk (lenD d) g = false → E (.ref cM) none H') ∧
  ∀ ws c b, d = .tuple ws → isFig d = true → e = .int c → 0 ≤ c → c ≤ 31 → g = .bool b → movOk ws.length g = true → ∀ p, H' p = none → Q (.ref p) (upd H' p (.tup (spotAt ws c b)))
/-- a shape's widths -/
theorem fig_tup {d : PyData} (h : isFig d = true) : ∃ ws, d = .tuple ws ∧ (ws.length = 1 ∨ ws.length = 2) ∧ ∀ (i : Nat) (x : PyData), ws[i]? = some x → ∃ m, x = .int m ∧ 0 ≤ m ∧ m ≤ 5 := by
  match d, h with
  | .tuple [a], h =>
    rw [fig_one] at h
    refine ⟨[a], rfl, .inl rfl, fun i x e => ?_⟩
    match i, e with
    | 0, e => cases e; exact numIn_some h
    | i + 1, e => simp at e
  | .tuple [a, b], h =>
    rw [fig_two, Bool.and_eq_true, Bool.and_eq_true] at h
    refine ⟨[a, b], rfl, .inr rfl, fun i x e => ?_⟩
    match i, e with
    | 0, e => cases e; exact numIn_some h.1.1
    | 1, e => cases e; exact numIn_some h.1.2
    | i + 2, e => simp at e
section
variable {P : Program} {w : World} {K : PySem.W.Frag} {mg : Str → Option Value} {base : Heap}
abbrev CalIsm (P : Program) (w : World) (K : PySem.W.Frag) (mg : Str → Option Value) (base : Heap) : Prop := Cal P w K mg base CX0 1 "is_move" ["shape", "thing"] (spIsm K)
abbrev CalBuc (P : Program) (w : World) (K : PySem.W.Frag) (mg : Str → Option Value) (base : Heap) (cW cH : Addr) : Prop := Cal P w K mg base (L2.CX P w) 5 "bucket" ["code", "width"] (spBuc K cW cH)
theorem sc_isp : FnScope ["shape", "thing", "table", "number"] ["shape", "thing"] (defScope sIsp) := ⟨rfl, rfl, rfl, by decide +kernel, rfl, by decide +kernel, by decide +kernel⟩
theorem ok_isp {f cS : Addr} {fd : FuncData} (F : Fun K "is_place" "is_place" sIsp f fd) (T : Bi1 mg) (CC : CalChs P w K mg base cS) (CN : CalNum P w K mg base) : FnOk P w K mg base (L2.CX P w) 6 f fd ["shape", "thing"] (spIsp K cS) := by
  obtain ⟨fC, fdC, GC, gC, kC, bC⟩ := CC
  obtain ⟨fN, fdN, GN, gN, kN, bN⟩ := CN
  refine F.okX sc_isp (fun vs H Q E h => ?_) (fun cdv A outer s H vs Q E hr h => ?_)
  · obtain ⟨v, t, d, e, rfl, _⟩ := h
    rfl
  · obtain ⟨v, t, d, e, rfl, hd, he, k⟩ := h
    have hrC : Room 5 _ := hr
    have hrN : Room 2 _ := hr.mono (by decide)
    refine ⟨_, (pss_cons (ps_expr (pe_call GC hrC (by rfl) gC kC bC .nil (passes_call (takes_of rfl rfl rfl rfl) fun _ _ _ _ h => h) (pa_cons (pv 0) pa_nil)))
        (pss_cons (ps_if (PW.pt (pw_or (pt_not (pt_val (pe_callB call_isi (by rfl) T.isinstance (by decide +kernel) (pa_cons (pv 1) (pa_cons (pe_bltn (v := .ty "tuple") (by rfl) T.tuple (by decide +kernel) rfl) pa_nil))))) (pw_or1 (pt_cmpR op_ne (pe_callB call_len_seq (by rfl) T.len PySem.boot_len (pa_cons (pv 1) pa_nil)) (pe_int) (nomark _))))) (pss_one (ps_ret (pe_bl))) pss_nil)
        (pss_cons (ps_asg (pv 1) (pg_tup rfl (pgs_cons (pg_name (i := 2) sc_isp.nd rfl (.inl rfl)) (pgs_cons (pg_name (i := 3) sc_isp.nd rfl (.inl rfl)) pgs_nil))))
        (pss_one (ps_ret (pe_and (pe_call GN hrN (by rfl) gN kN bN .nil pass0 (pa_cons (pv 2) (pa_cons (pe_int) (pa_cons (pe_op op_sub (pe_callB call_len_seq (by rfl) T.len PySem.boot_len (pa_cons (pv 0) pa_nil)) (pe_int)) pa_nil)))) (pe_one (pe_call GN hrN (by rfl) gN kN bN .nil pass0 (pa_cons (pv 3) (pa_cons (pe_int) (pa_cons (pe_op op_sub (pe_op op_shl (pe_int) (pe_ix ix_tup (pv 0) (pv 2) (fun _ _ => rfl))) (pe_int)) pa_nil))))))))))), ?_⟩
    refine ⟨_, rfl, v, d, rfl, hd, fun H1 s1 => ⟨fun q => ?_, fun q => (k H1 s1).1 q⟩⟩
    have k2 := (k H1 s1).2 q
    obtain ⟨ws, rfl, hl, hw⟩ := fig_tup q
    obtain ⟨a, xs, rfl, ha, hx⟩ := hd.tup_inv
    refine ⟨_, rfl, t, .ty "tuple", .type (tyD e), .type "tuple", _, rfl, .ty _, (he.same s1).ty, kit_ty (kit_tuple e), _, rfl, ?_⟩
    cases ht : isT e with
    | false =>
      have e2 : isSpot (.tuple ws) e = false := by
        cases e with
        | tuple es => cases ht
        | _ => rfl
      rw [e2] at k2
      exact k2
    | true =>
      obtain ⟨es, rfl⟩ := isT_some ht
      obtain ⟨b, ys, rfl, hb, hy⟩ := he.tup_inv
      have hb1 := sqT_same s1 hb
      have ha1 := sqT_same s1 ha
      refine ⟨_, rfl, b, ys, rfl, .inr hb1, rfl, _, rfl, ?_⟩
      have ly := hy.len
      by_cases n2 : ys.length = 2
      · have e1 : (!decide (V.int (ys.length : Int) = V.int 2)) = false := by simp [n2]
        refine iteNb e1 ?_
        clear e1
        have hx1 := hx.same s1
        have hy1 := hy.same s1
        cases hy1 with
        | nil => exact absurd n2 (by simp)
        | @cons y yr t tr hyt hr2 =>
          cases hr2 with
          | nil => exact absurd n2 (by simp)
          | @cons z zr n nr hzn hr3 =>
            cases hr3 with
            | cons _ _ => exact absurd n2 (by simp)
            | nil =>
              have lx := hx.len
              refine ⟨_, rfl, b, _, rfl, hb1, rfl, ?_⟩
              refine ⟨_, _, rfl, _, _, rfl, rfl, ?_⟩
              refine ⟨_, rfl, _, rfl, a, xs, rfl, .inr ha1, _, _, rfl, rfl, y, t, 0, _, rfl, hyt, _, rfl, ?_⟩
              rw [lx]
              have e3 : isSpot (.tuple ws) (.tuple [t, n]) = (numIn 0 ((ws.length : Int) - 1) t && numIn 0 (2 ^ (intOf (ws.getD (intOf t).toNat .none)).toNat - 1) n) := rfl
              rw [e3] at k2
              cases q3 : numIn 0 ((ws.length : Int) - 1) t with
              | false =>
                rw [q3] at k2
                exact k2
              | true =>
                rw [q3, Bool.true_and] at k2
                obtain ⟨i, rfl, i0, i9⟩ := numIn_some q3
                obtain rfl := hyt.int_inv
                obtain ⟨j, rfl⟩ : ∃ j : Nat, i = (j : Int) := ⟨i.toNat, by omega⟩
                have hj : j < xs.length := by omega
                have hjw : j < ws.length := by omega
                obtain ⟨dm, em, hm⟩ := hx1.get (List.getElem?_eq_getElem hj)
                obtain ⟨m, rfl, m0, m5⟩ := hw j dm em
                have ev := hm.int_inv
                have ej : xs[j]? = some (.int m) := by rw [List.getElem?_eq_getElem hj, ev]
                refine ⟨_, rfl, _, rfl, _, rfl, a, xs, (j : Int), _, rfl, rfl, ha1, atI_nat ej, _, _, rfl, rfl, ⟨m0, by omega, by decide⟩, _, _, rfl, rfl, z, n, 0, _, rfl, hzn, ?_⟩
                have e4 : (1 : Int) * 2 ^ m.toNat - 1 = 2 ^ (intOf (ws.getD (intOf (.int (j : Int))).toNat .none)).toNat - 1 := by
                  have e5 : ws.getD (intOf (.int (j : Int))).toNat .none = .int m := by
                    show ws.getD ((j : Int)).toNat .none = _
                    rw [Int.toNat_natCast, List.getD_eq_getElem?_getD, em]
                    rfl
                  rw [e5, Int.one_mul]
                  rfl
                rw [e4]
                exact k2
      · have n3 : ¬ (ys.length : Int) = 2 := by omega
        have e1 : (!decide (V.int (ys.length : Int) = V.int 2)) = true := by simp [n3]
        have e2 : isSpot (.tuple ws) (.tuple es) = false := by
          match es, ly with
          | [], _ => rfl
          | [_], _ => rfl
          | [_, _], ly => exact absurd ly n2
          | _ :: _ :: _ :: _, _ => rfl
        rw [e2] at k2
        exact iteYb e1 k2
theorem sc_pof : FnScope ["shape", "code", "moved", "table"] ["shape", "code", "moved"] (defScope sPof) := ⟨rfl, rfl, rfl, by decide +kernel, rfl, by decide +kernel, by decide +kernel⟩
theorem ok_pof {f cS cH cM cW : Addr} {fd : FuncData} (F : Fun K "place_of" "place_of" sPof f fd) (CC : CalChs P w K mg base cS) (CH : CalChk P w K mg base cH) (CM : CalIsm P w K mg base) (CB : CalBuc P w K mg base cW cH) (TInvalidMove : ErC K mg "InvalidMove" cM) :
    FnOk P w K mg base (L2.CX P w) 6 f fd ["shape", "code", "moved"] (spPof K cS cH cM) := by
  obtain ⟨fC, fdC, GC, gC, kC, bC⟩ := CC
  obtain ⟨fH, fdH, GH, gH, kH, bH⟩ := CH
  obtain ⟨fM, fdM, GM, gM, kM, bM⟩ := CM
  obtain ⟨fB, fdB, GB, gB, kB, bB⟩ := CB
  refine F.okX sc_pof (fun vs H Q E h => ?_) (fun cdv A outer s H vs Q E hr h => ?_)
  · obtain ⟨v, u, m, d, e, g, rfl, _⟩ := h
    rfl
  · obtain ⟨v, u, m, d, e, g, rfl, hd, he, hg, k⟩ := h
    have hrC : Room 5 _ := hr
    have hrB : Room 5 _ := hr
    have hrH : Room 4 _ := hr.mono (by decide)
    have hrM : Room 1 _ := hr.mono (by decide)
    refine ⟨_, (pss_cons (ps_expr (pe_call GC hrC (by rfl) gC kC bC .nil (passes_call (takes_of rfl rfl rfl rfl) fun _ _ _ _ h => h) (pa_cons (pv 0) pa_nil)))
        (pss_cons (ps_expr (pe_call GH hrH (by rfl) gH kH bH .nil (passes_call (takes_of rfl rfl rfl rfl) fun _ _ _ _ h => h) (pa_cons (pv 1) pa_nil)))
        (pss_cons (ps_if (pt_not (pt_val (pe_call GM hrM (by rfl) gM kM bM .nil pass0 (pa_cons (pv 0) (pa_cons (pv 2) pa_nil))))) (pss_one (ps_raise rfl (takes_of rfl rfl rfl rfl) (pmk_own PySem.F.excBase_ValueError TInvalidMove.q TInvalidMove.g TInvalidMove.k (raises_own TInvalidMove.b TInvalidMove.t) rfl))) pss_nil)
        (pss_cons (ps_set (i := 3) sc_pof.nd rfl (.inl rfl) (pe_ifExp (pt_val (pv 2)) (pe_int) (pe_int)))
        (pss_one (ps_ret (pe_tup (pa_cons (pv 3) (pa_cons (pe_call GB hrB (by rfl) gB kB bB .nil (passes_call (takes_of rfl rfl rfl rfl) fun _ _ _ _ h => h) (pa_cons (pv 1) (pa_cons (pe_ix ix_tup (pv 0) (pv 3) (fun _ _ => rfl)) pa_nil))) pa_nil))))))))), ?_⟩
    refine ⟨_, rfl, v, d, rfl, hd, fun H1 s1 => ⟨fun q => ?_, fun q => (k H1 s1).1 q⟩⟩
    refine ⟨_, rfl, u, e, rfl, he.same s1, fun q1 => ?_, fun q1 => (k H1 s1).2.1 q q1⟩
    obtain ⟨ws, rfl, hl, hw⟩ := fig_tup q
    obtain ⟨a, xs, rfl, ha, hx⟩ := hd.tup_inv
    have lx := hx.len
    refine ⟨_, rfl, _, rfl, a, xs, m, g, rfl, sqT_same s1 ha, hg.same s1, by omega, fun H2 s2 => ⟨_, rfl, ?_⟩⟩
    rw [lx]
    have s12 := s1.trans s2
    obtain ⟨_, _, k3, k4⟩ := k H2 s12
    cases q2 : movOk ws.length g with
    | false => exact k3 q q1 q2
    | true =>
      obtain ⟨b, rfl⟩ : ∃ b, g = .bool b := by
        cases g with
        | bool b => exact ⟨b, rfl⟩
        | _ => cases q2
      obtain rfl : m = .bl b := by cases hg; rfl
      obtain ⟨c, rfl, c0, c9⟩ := numIn_some q1
      have kk := k4 ws c b rfl q rfl c0 c9 rfl q2
      obtain rfl := he.int_inv
      have hx2 := hx.same s12
      have ha2 := sqT_same s12 ha
      have at_ : ∀ j : Nat, j < ws.length → ∃ m, ws.getD j .none = .int m ∧ xs[j]? = some (.int m) ∧ 0 ≤ m ∧ m ≤ 5 := fun j hj => by
        have hjx : j < xs.length := by omega
        obtain ⟨dm, em, hm⟩ := hx2.get (List.getElem?_eq_getElem hjx)
        obtain ⟨m, rfl, m0, m5⟩ := hw j dm em
        refine ⟨m, ?_, ?_, m0, m5⟩
        · rw [List.getD_eq_getElem?_getD, em]
          rfl
        · rw [List.getElem?_eq_getElem hjx, hm.int_inv]
      have fin : ∀ (j : Nat) (m : Int), ws.getD j .none = .int m → j = (if b then 1 else 0) → [V.int (j : Int), V.int (c % 2 ^ m.toNat)] = spotAt ws c b := fun j m e1 e2 => by
        unfold spotAt
        rw [← e2, e1, e2]
        cases b <;> rfl
      cases b with
      | false =>
        obtain ⟨m, e1, e2, m0, m5⟩ := at_ 0 (by omega)
        refine ⟨_, rfl, _, rfl, _, rfl, _, rfl, _, rfl, _, rfl, a, xs, 0, _, rfl, rfl, ha2, atI_nat (j := 0) e2, _, _, .int c, .int m, rfl, .int c, .int m, fun z => ?_, fun _ z => ?_, fun c' m' e3 e4 _ _ _ _ => ⟨by show 2 ≤ sizeLine; decide, fun p hp => ?_⟩⟩
        · have e5 : numIn 0 5 (.int m) = true := by
            show (decide (0 ≤ m) && decide (m ≤ 5)) = true
            rw [decide_eq_true m0, decide_eq_true m5]; rfl
          rw [e5] at z
          cases z
        · rw [q1] at z
          cases z
        · cases e3
          cases e4
          have e6 := fin 0 m e1 rfl
          have z := kk p hp
          rw [← e6] at z
          exact z
      | true =>
        have l2 : ws.length = 2 := by
          have e7 : (!true || decide (ws.length ≠ 1)) = true := q2
          rw [Bool.not_true, Bool.false_or, decide_eq_true_iff] at e7
          omega
        obtain ⟨m, e1, e2, m0, m5⟩ := at_ 1 (by omega)
        refine ⟨_, rfl, _, rfl, _, rfl, _, rfl, _, rfl, _, rfl, a, xs, 1, _, rfl, rfl, ha2, atI_nat (j := 1) e2, _, _, .int c, .int m, rfl, .int c, .int m, fun z => ?_, fun _ z => ?_, fun c' m' e3 e4 _ _ _ _ => ⟨by show 2 ≤ sizeLine; decide, fun p hp => ?_⟩⟩
        · have e5 : numIn 0 5 (.int m) = true := by
            show (decide (0 ≤ m) && decide (m ≤ 5)) = true
            rw [decide_eq_true m0, decide_eq_true m5]; rfl
          rw [e5] at z
          cases z
        · rw [q1] at z
          cases z
        · cases e3
          cases e4
          have e6 := fin 1 m e1 rfl
          have z := kk p hp
          rw [← e6] at z
          exact z
end
end Own
/-! enumerate of a tuple, walked. -/
namespace Own
open PySem PySem.Spec PyProof.Rows L2
open Sem (wp)
open AutoSeq1 (wpAny_loadPart')
theorem en_made (t : Addr) (items : Array Value) (n : Nat) (dct : Option Addr) (sl : Array (Option Value)) :
    Meets (Builtin.«enumerate.__new__» ⟨[.type "enumerate", .ref t], []⟩) (fun _ R s => s.heap.get? t = some { cls := .type "tuple", dict := dct, data := .seq items n, slots := sl } ∧
      R (.ok (.ret (.ref (s.heap.push { cls := .type "tuple_iterator", data := .fields #[.ref t, .int 0 0] }).objs.size)))
        { s with heap := (s.heap.push { cls := .type "tuple_iterator", data := .fields #[.ref t, .int 0 0] }).push { cls := .type "enumerate", data := .fields #[.none, .bool false, .ref s.heap.objs.size, rawInt 0, .none, .none] } }) :=
  .of_wp fun prog w A R s h => by
    obtain ⟨hp, g, d, tk, os⟩ := s
    obtain ⟨ht, h⟩ := h
    have su := sub_enumerate
    have hT : Heap.IsTuple (Shared.heap ⟨hp, g, d, tk, os⟩) t items := ⟨_, ht, rfl, n, rfl⟩
    wp_walk using wpAny_loadPart' ht
    refine wpAny_stack_any fun st => wpAny_pure ?_
    split
    · rename_i c _ _ _ _ _
      cases (c == Value.type "enumerate") <;>
      · wp_walk using wpAny_loadPart' ht, wpAny_pyIter_tuple hT
        exact ⟨_, rfl, h⟩
    · wp_walk using wpAny_loadPart' ht, wpAny_pyIter_tuple hT
      exact ⟨_, rfl, h⟩
section
variable {prog : Program} {w : World} {A : Around} {E : Value → Shared → Prop} {s : Shared}
theorem en_call {t : Addr} {items : Array Value} {Q : Value → Shared → Prop} (hT : s.heap.IsTuple t items)
    (h : ∀ h', IsEnum h' (s.heap.objs.size + 1) s.heap.objs.size 0 .none → h'.IsTupleIter s.heap.objs.size t 0 → (∀ b o, s.heap.get? b = some o → h'.get? b = some o) → Q (.ref (s.heap.objs.size + 1)) { s with heap := h' }) :
    wpAny (model prog w) A (call (.type "enumerate") [.ref t]) Q E s := by
  obtain ⟨⟨c, dct, dt, sl⟩, ht, hc, n, hd⟩ := hT
  obtain rfl : c = .type "tuple" := hc
  obtain rfl : dt = .seq items n := hd
  refine callType_new F.called_enumerate (by decide) (F.typeCall_enumerate_1 _) (F.newCall_enumerate_1 _) (fun obj => F.args_object_init_2 obj _) F.entry_enumerate_new
    (en_made t items n dct sl) ⟨ht, ?_⟩
  have sz : (s.heap.push { cls := .type "tuple_iterator", data := .fields #[.ref t, .int 0 0] }).objs.size = s.heap.objs.size + 1 := Heap.size_push ..
  show _ ∧ _
  rw [sz]
  have ge := Heap.get?_push_size (s.heap.push { cls := .type "tuple_iterator", data := .fields #[.ref t, .int 0 0] })
    (o := { cls := .type "enumerate", data := .fields #[.none, .bool false, .ref s.heap.objs.size, rawInt 0, .none, .none] }) rfl
  rw [sz] at ge
  exact ⟨⟨_, ge, rfl⟩, h _ ge ⟨_, Heap.get?_push_of_some _ (Heap.get?_push_size _ rfl), rfl, rfl⟩ fun b o x => Heap.get?_push_of_some _ (Heap.get?_push_of_some _ x)⟩
end
/-- the tuple at a: at each turn a new pair of the place and the item -/
def IteT (K : PySem.W.Frag) (a : Addr) : It :=
  ⟨fun i H => ∃ (xs : List V) (x : V), SqT K H a xs ∧ xs[i]? = some x, fun i H v H' => ∃ T x, v = .ref T ∧ H T = none ∧ H' = upd H T (.tup [.int (i : Nat), x]) ∧ ∀ xs, SqT K H a xs → xs[i]? = some x, fun i H => ∃ xs : List V, SqT K H a xs ∧ xs.length = i⟩
theorem turn_enT {P : Program} {w : World} {K : PySem.W.Frag} {elts : List Expr} {kk : Nat} {tpos : Pos} (a e it : Addr) :
    Turn P w K (.Tuple elts kk tpos) (IteT K a) [e, it] e (fun i h => (∃ old, IsEnum h e it ((i : Nat) : Int) old) ∧ h.IsTupleIter it a i ∧ e ≠ it) where
  mem := by simp
  obj := by
    rintro i h ⟨⟨old, he⟩, ⟨o, ho, hc, hd⟩, _⟩ b hb
    rcases (show b = e ∨ b = it by simpa using hb) with rfl | rfl
    · exact ⟨_, he, fun v q => nomatch q⟩
    · exact ⟨o, ho, fun v q => by rw [hd] at q; cases q⟩
  keep := by
    rintro i h h' ⟨⟨old, he⟩, hi, ne⟩ k
    exact ⟨⟨old, k e (by simp) _ he⟩, hi.at fun o q => k it (by simp) o q, ne⟩
  item := by
    intro X hP hw hK hc i pins s σ H E I hf st hg
    subst hP hw hK
    obtain ⟨⟨old, he⟩, hit, ne⟩ := st
    obtain ⟨xs, x, hq, hx⟩ := hg
    obtain ⟨its, rv, p, _⟩ := I.tuple hq
    obtain ⟨u, hu, ru⟩ := rv.get hx
    have le : e < s.heap.objs.size := Heap.lt_size he
    have li : it < s.heap.objs.size := by
      obtain ⟨_, q, _⟩ := hit
      exact Heap.lt_size q
    have hT : s.heap.IsTuple a its.toArray := p
    have nai : a ≠ it := fun z => by
      obtain ⟨o, h1, h2, _⟩ := hT
      obtain ⟨o', h3, h4, _⟩ := hit
      rw [z, h3] at h1
      cases h1
      rw [h4] at h2
      exact absurd (Value.type.inj h2) (by decide)
    have nea : e ≠ a := fun z => by
      obtain ⟨o, h1, h2, _⟩ := hT
      rw [← z, he] at h1
      cases h1
      exact absurd (Value.type.inj h2) (by decide)
    have lt : i < its.toArray.size := by
      rw [List.size_toArray]
      exact (List.getElem?_eq_some_iff.mp hu).1
    refine wpAny_pyNext_enum_itemD (Draws.tuple (show X.A.in1.handled = none from I.ok.hd hc) it a nai its.toArray) he (show s.heap.IsTupleIter it a i ∧ s.heap.IsTuple a its.toArray from ⟨hit, hT⟩) lt ne (by simp [ne, nea]) fun y h' tk hy ho hst hnew hsz hk => ?_
    obtain ⟨hit', _⟩ := hst
    have ey : y = u := by
      rw [List.getElem?_toArray, hu] at hy
      exact (Option.some.inj hy).symm
    subst ey
    refine ⟨_, rfl, wpAny_letOwnedTupleGo_enum (s := { s with heap := h', toks := tk + 1 }) ho fun h'' he' sb => ?_⟩
    have hn2 : h''.get? s.heap.objs.size = some { cls := .type "tuple", data := .seq #[.int i tk, y] } := (sb.2 _ (Nat.ne_of_gt le)).trans hnew
    have new : ObjOk X.prog X.w (upd H s.heap.objs.size (.tup [.int (i : Nat), x])) h'' s.heap.objs.size (.tup [.int (i : Nat), x]) :=
      ⟨by show 2 ≤ sizeLine; decide, [.int i tk, y], .cons ⟨_, rfl⟩ (.cons ru .nil), ⟨_, hn2, rfl, _, rfl⟩⟩
    have I1 : Inv X pins σ (upd H s.heap.objs.size (.tup [.int (i : Nat), x])) { s with heap := h'', toks := tk + 1 } :=
      I.turnedNew (ch := [e, it]) (fun b ob hb q => (sb.2 b (fun z => hb (by simp [z]))).trans (hk b ob (fun z => hb (by simp [z])) (fun z => hb (by simp [z])) q)) hf (Nat.le_refl _) new
    refine ⟨.ref s.heap.objs.size, _, I1, rfl, ⟨_, x, rfl, I.hok.fresh (Nat.le_refl _), rfl, fun ys hy => by rw [I.tuple_inj hy hq]; exact hx⟩, ⟨⟨y, ?_⟩, hit'.at fun o q => (sb.2 it (Ne.symm ne)).trans q, ne⟩, fun b hb => ?_⟩
    · rw [show ((i + 1 : Nat) : Int) = (i : Int) + 1 by omega]
      exact he'
    · have lb : b < s.heap.objs.size := by
        rcases (show b = e ∨ b = it by simpa using hb) with rfl | rfl
        · exact le
        · exact li
      rw [upd_ne (Nat.ne_of_lt lb)]
      exact (hf b hb).1
  done := by
    intro X hP hw hK hc i pins s σ H E I hf st hg
    subst hP hw hK
    obtain ⟨⟨old, he⟩, hit, ne⟩ := st
    obtain ⟨xs, hq, hx⟩ := hg
    obtain ⟨its, rv, p, _⟩ := I.tuple hq
    obtain ⟨f0, f1, f2, f3, f4, f5⟩ := hf it (by simp)
    have hT : s.heap.IsTuple a its.toArray := p
    have nai : a ≠ it := fun z => by
      obtain ⟨o, h1, h2, _⟩ := hT
      obtain ⟨o', h3, h4, _⟩ := hit
      rw [z, h3] at h1
      cases h1
      rw [h4] at h2
      exact absurd (Value.type.inj h2) (by decide)
    have sz : its.toArray.size = i := by
      rw [List.size_toArray, ← rv.length]
      exact hx
    refine wpAny_pyNext_enum_endD (Draws.tuple (show X.A.in1.handled = none from I.ok.hd hc) it a nai its.toArray) he (show s.heap.IsTupleIter it a its.toArray.size ∧ s.heap.IsTuple a its.toArray from ⟨by rw [sz]; exact hit, hT⟩) fun h' eb => ⟨rfl, I.turned (t' := s.toks) (fun b o hb q => eb b o hb q) f0 f1 f3 f4 f5⟩
  self := fun A i s Q E st h => let ⟨⟨_, he⟩, _⟩ := st; wpAny_pyIter_enum he h
def iEnT (K : PySem.W.Frag) (ta : TA) : TI := fun σ H R => ta σ H fun vs H1 => ∃ a xs, vs = [.ref a] ∧ SqT K H1 a xs ∧ R (IteT K a) H1
theorem pi_enT {X : Cx} {e : Expr} {ta : TA} {p pos tpos : Pos} {elts : List Expr} {kk : Nat} (hg : Gl X "enumerate") (hm : X.mg "enumerate" = none) (ha : PA X [e] ta) (hs : starEach [e] X.env = [(false, eval e X.env)] := by rfl) :
    PI X (.Tuple elts kk tpos) (.Call (.Name "enumerate" p) [e] [] pos) (iEnT X.K ta) := by
  refine ⟨fun pins s σ H R I h => ?_⟩
  refine Call_ (ld_blt I hg hm boot_enumerate (PyProof.Rows.callWith_type1 (thn (ha.run pos pins s σ H _ I h) fun us s1 ⟨vs, H1, I1, r1, q1⟩ => ?_) hs rfl))
  obtain ⟨a, xs, rfl, hq, q⟩ := q1
  cases r1 with
  | cons r rr =>
    cases rr
    cases r
    obtain ⟨its, rv, p', _⟩ := I1.tuple hq
    refine en_call (show s1.heap.IsTuple a its.toArray from p') fun h' he hit hk => wpAny_pyIter_enum he ?_
    have I2 : Inv X pins σ H1 { s1 with heap := h' } := I1.kept (t' := s1.toks) hk
    refine ⟨s1.heap.objs.size + 1, [s1.heap.objs.size + 1, s1.heap.objs.size], _, _, H1, rfl, I2, turn_enT a (s1.heap.objs.size + 1) s1.heap.objs.size, ⟨⟨.none, he⟩, hit, Nat.succ_ne_self _⟩, fun b hb => ?_, q⟩
    have ge : s1.heap.objs.size ≤ b := by
      rcases (show b = s1.heap.objs.size + 1 ∨ b = s1.heap.objs.size by simpa using hb) with rfl | rfl
      · exact Nat.le_succ _
      · exact Nat.le_refl _
    exact I1.fpOk ge (I1.hok.fresh ge)
end Own
/-! The program's list of places. -/
namespace Own
open PySem PySem.Spec PyProof.Rows L2
def SpotsAt (H : Hp) : List V → List (Int × Int) → Prop
  | [], [] => True
  | v :: vs, k :: r => (∃ p, v = .ref p ∧ H p = some (.tup [.int k.1, .int k.2])) ∧ SpotsAt H vs r
  | _, _ => False
theorem SpotsAt.more {H : Hp} {v : V} {k : Int × Int} (h : ∃ p, v = .ref p ∧ H p = some (.tup [.int k.1, .int k.2])) : ∀ {vs : List V} {r : List (Int × Int)}, SpotsAt H vs r → SpotsAt H (vs ++ [v]) (r ++ [k])
  | [], [], _ => ⟨h, trivial⟩
  | _ :: _, _ :: _, ⟨a, b⟩ => ⟨a, SpotsAt.more h b⟩
  | [], _ :: _, z => z.elim
  | _ :: _, [], z => z.elim
theorem SpotsAt.keep {H H' : Hp} (k : ∀ p xs, H p = some (.tup xs) → H' p = some (.tup xs)) : ∀ {vs : List V} {r : List (Int × Int)}, SpotsAt H vs r → SpotsAt H' vs r
  | [], [], _ => trivial
  | _ :: _, _ :: _, ⟨⟨p, e, h⟩, b⟩ => ⟨⟨p, e, k _ _ h⟩, SpotsAt.keep k b⟩
  | [], _ :: _, z => z.elim
  | _ :: _, [], z => z.elim
theorem SpotsAt.len {H : Hp} : ∀ {vs : List V} {r : List (Int × Int)}, SpotsAt H vs r → vs.length = r.length
  | [], [], _ => rfl
  | _ :: _, _ :: _, ⟨_, b⟩ => congrArg (· + 1) (SpotsAt.len b)
  | [], _ :: _, z => z.elim
  | _ :: _, [], z => z.elim
theorem SpotsAt.dv {K : PySem.W.Frag} {H : Hp} : ∀ {vs : List V} {r : List (Int × Int)}, SpotsAt H vs r → DvAll K H vs (r.map fun k => .tuple [.int k.1, .int k.2])
  | [], [], _ => .nil
  | _ :: _, _ :: _, ⟨⟨p, e, h⟩, b⟩ => .cons (by rw [e]; exact .tup (SqT.of h) (.cons (.int _) (.cons (.int _) .nil))) (SpotsAt.dv b)
  | [], _ :: _, z => z.elim
  | _ :: _, [], z => z.elim
/-- the places of the first i tables; of one table, the first j -/
def rowOf (t : Nat) (j : Nat) : List (Int × Int) := (List.range j).map fun k : Nat => ((t : Int), (k : Int))
def manyOf (ws : List PyData) (t : Nat) : Nat := 2 ^ (intOf (ws.getD t .none)).toNat
def spotsTo (ws : List PyData) (i : Nat) : List (Int × Int) := (List.range i).flatMap fun t => rowOf t (manyOf ws t)
theorem rowOf_more (t j : Nat) : rowOf t (j + 1) = rowOf t j ++ [((t : Int), (j : Int))] := by
  unfold rowOf
  rw [List.range_succ, List.map_append]
  rfl
theorem spotsTo_more (ws : List PyData) (i : Nat) : spotsTo ws (i + 1) = spotsTo ws i ++ rowOf i (manyOf ws i) := by
  unfold spotsTo
  rw [List.range_succ, List.flatMap_append]
  simp
theorem rowOf_len (t j : Nat) : (rowOf t j).length = j := by
  unfold rowOf
  rw [List.length_map, List.length_range]
theorem spotsTo_len {ws : List PyData} (h : ∀ t, manyOf ws t ≤ 32) : ∀ i, (spotsTo ws i).length ≤ i * 32
  | 0 => Nat.zero_le _
  | i + 1 => by
    rw [spotsTo_more, List.length_append, rowOf_len]
    have h1 := spotsTo_len h i
    have h2 := h i
    omega
def spotsD (ws : List PyData) : List PyData := (spotsTo ws ws.length).map fun k => .tuple [.int k.1, .int k.2]
def spPlc (K : PySem.W.Frag) (cS : Addr) : Sp := fun vs H Q E => ∃ (v : V) (d : PyData), vs = [v] ∧ Dv K H v d ∧ (∀ H', Same H H' → isFig d = false → E (.ref cS) none H') ∧
  ∀ ws, d = .tuple ws → isFig d = true → ∀ H' D xs, Same H H' → H D = none → H' D = some (.lst xs) → SpotsAt H' xs (spotsTo ws ws.length) → Q (.ref D) H'
section
variable {P : Program} {w : World} {K : PySem.W.Frag} {mg : Str → Option Value} {base : Heap}
theorem sc_plc : FnScope ["shape", "table", "width", "number"] ["shape"] (defScope sPlc) := ⟨rfl, rfl, rfl, by decide +kernel, rfl, by decide +kernel, by decide +kernel⟩
theorem ok_plc {f cS : Addr} {fd : FuncData} (F : Fun K "places" "places" sPlc f fd) (T : Bi1 mg) (CC : CalChs P w K mg base cS) : FnOk P w K mg base (L2.CX P w) 6 f fd ["shape"] (spPlc K cS) := by
  obtain ⟨fC, fdC, GC, gC, kC, bC⟩ := CC
  refine F.okX sc_plc (fun vs H Q E h => ?_) (fun cdv A outer s H vs Q E hr h => ?_)
  · obtain ⟨v, d, rfl, _⟩ := h
    rfl
  · obtain ⟨v, d, rfl, hd, k1, k2⟩ := h
    refine ⟨_, (pss_cons (ps_expr (pe_call GC hr (by rfl) gC kC bC .nil (passes_call (takes_of rfl rfl rfl rfl) fun _ _ _ _ h => h) (pa_cons (pv 0) pa_nil)))
        (pss_one (ps_ret (pe_lc2 (own := [("table", 1), ("width", 2), ("number", 3)]) (vs1 := [3]) (g := gTup K 2 (gCons (gName 1) (gCons (gName 2) gNil))) (g1 := gName 3) rfl sc_plc.nd (pi_enT (by rfl) T.enumerate (pa_cons (pv 0) pa_nil)) (blkOk_by (N := ["shape", "table", "width", "number"]) (sc := defScope sPlc) (by decide +kernel)) (by decide) (fun _ _ _ _ _ => pg_tup rfl (pgs_cons (pg_name (i := 1) sc_plc.nd rfl (.inl rfl)) (pgs_cons (pg_name (i := 2) sc_plc.nd rfl (.inl rfl)) pgs_nil))) (fun _ _ _ _ _ => pts_nil) (fun _ _ _ _ _ => pi_range1 (by rfl) T.range (pa_cons (pe_op op_shl pe_int (pv 2)) pa_nil)) (fun _ _ _ _ _ => pg_name (i := 3) sc_plc.nd rfl (.inl rfl)) (fun _ _ _ _ _ => pts_nil) (fun _ _ _ _ _ => pe_tup (pa_cons (pv 1) (pa_cons (pv 3) pa_nil))))))), ?_⟩
    refine ⟨_, rfl, v, d, rfl, hd, fun H1 s1 => ⟨fun q => ?_, fun q => k1 H1 s1 q⟩⟩
    obtain ⟨ws, rfl, hl, hw⟩ := fig_tup q
    obtain ⟨a, xs, rfl, ha, hx⟩ := hd.tup_inv
    have lx := hx.len
    have ha1 := sqT_same s1 ha
    refine ⟨_, rfl, a, xs, rfl, ha1, fun D hD => ?_⟩
    refine ⟨fun i m H2 => i ≤ ws.length ∧ m = ws.length - i ∧ ∃ acc, H2 D = some (.lst acc) ∧ SpotsAt H2 acc (spotsTo ws i) ∧ Same H1 H2, ⟨_, Nat.zero_le _, rfl, [], upd_same, trivial, sameN hD⟩, ?_⟩
    rintro i m H2 ⟨hi, rfl, acc, h1, h2, s2⟩
    have ha2 := sqT_same s2 ha1
    by_cases hlt : i < ws.length
    · refine .inr ⟨⟨xs, xs[i]'(by omega), ha2, List.getElem?_eq_getElem (by omega)⟩, fun H3 => ∃ acc, H3 D = some (.lst acc) ∧ SpotsAt H3 acc (spotsTo ws (i + 1)) ∧ Same H1 H3, fun H3 ⟨acc3, x1, x2, x3⟩ => ⟨_, by omega, hlt, rfl, acc3, x1, x2, x3⟩, ?_⟩
      rintro v H3 ⟨T3, x, rfl, hT, rfl, hx3⟩
      have ex := hx3 xs ha2
      obtain ⟨dm, em, hm⟩ := (hx.same (s1.trans s2)).get ex
      obtain ⟨m, rfl, m0, m5⟩ := hw i dm em
      obtain rfl := hm.int_inv
      have en : manyOf ws i = 2 ^ m.toNat := by
        unfold manyOf
        rw [List.getD_eq_getElem?_getD, em]
        rfl
      have e32 : (1 : Int) * 2 ^ m.toNat = ((manyOf ws i : Nat) : Int) ∧ manyOf ws i ≤ 32 := by
        rw [en]
        rcases (show m = 0 ∨ m = 1 ∨ m = 2 ∨ m = 3 ∨ m = 4 ∨ m = 5 by omega) with rfl | rfl | rfl | rfl | rfl | rfl <;> exact ⟨rfl, by decide⟩
      obtain ⟨e1, e9⟩ := e32
      have nTD : D ≠ T3 := fun z => by rw [← z, h1] at hT; cases hT
      have s3 : Same H2 (upd H2 T3 (.tup [.int (i : Nat), .int m])) := sameN hT
      refine ⟨T3, _, rfl, SqT.of upd_same, rfl, _, _, rfl, _, _, rfl, rfl, rfl, _, rfl, _, _, rfl, rfl, ⟨m0, by omega, by decide⟩, _, rfl, ?_⟩
      rw [e1]
      refine ⟨by omega, by omega, ?_⟩
      rw [Int.toNat_natCast]
      refine ⟨fun j k H4 => j ≤ manyOf ws i ∧ k = manyOf ws i - j ∧ ∃ acc, H4 D = some (.lst acc) ∧ SpotsAt H4 acc (spotsTo ws i ++ rowOf i j) ∧ Same H1 H4, ⟨_, Nat.zero_le _, rfl, acc, s3 _ _ h1, ?_, s2.trans s3⟩, ?_⟩
      · have z := h2.keep (H' := upd H2 T3 (.tup [.int (i : Nat), .int m])) fun p ys e => s3 _ _ e
        rw [show rowOf i 0 = [] from rfl, List.append_nil]
        exact z
      rintro j k H4 ⟨hj, rfl, acc4, y1, y2, y3⟩
      by_cases hjn : j < manyOf ws i
      · refine .inr ⟨hjn, fun H5 => ∃ acc, H5 D = some (.lst acc) ∧ SpotsAt H5 acc (spotsTo ws i ++ rowOf i (j + 1)) ∧ Same H1 H5, fun H5 ⟨acc5, x1, x2, x3⟩ => ⟨_, by omega, hjn, rfl, acc5, x1, x2, x3⟩, ?_⟩
        rintro v H5 ⟨rfl, rfl⟩
        refine ⟨rfl, _, rfl, _, rfl, by show 2 ≤ sizeLine; decide, fun p hp => ⟨acc4, ?_, ?_, acc4 ++ [.ref p], upd_same, ?_, ?_⟩⟩
        · rw [upd_ne (ne_of_none y1 hp)]
          exact y1
        · rw [y2.len, List.length_append, rowOf_len]
          have l1 := spotsTo_len (ws := ws) (fun t => ?_) i
          · exact Nat.lt_of_lt_of_le (show (spotsTo ws i).length + j < 1000 by omega) (by decide : 1000 ≤ sizeLine)
          · by_cases ht : t < ws.length
            · obtain ⟨m', e6, p0, p5⟩ := hw t _ (List.getElem?_eq_getElem ht)
              unfold manyOf
              rw [List.getD_eq_getElem?_getD, List.getElem?_eq_getElem ht, e6]
              show 2 ^ m'.toNat ≤ 32
              rcases (show m' = 0 ∨ m' = 1 ∨ m' = 2 ∨ m' = 3 ∨ m' = 4 ∨ m' = 5 by omega) with rfl | rfl | rfl | rfl | rfl | rfl <;> decide
            · unfold manyOf
              rw [List.getD_eq_getElem?_getD, List.getElem?_eq_none (by omega)]
              decide
        · rw [rowOf_more, ← List.append_assoc]
          have npD : p ≠ D := fun z => by rw [z, y1] at hp; cases hp
          refine SpotsAt.more ⟨p, rfl, ?_⟩ (y2.keep fun b ys e => ?_)
          · rw [upd_ne npD, upd_same, Int.zero_add]
          · rw [upd_ne (fun z => by rw [z, y1] at e; cases e), upd_ne (ne_of_none e hp)]
            exact e
        · intro b o e
          rw [upd_ne (ne_of_none e hD), upd_ne (ne_of_none (y3 _ _ e) hp)]
          exact y3 _ _ e
      · refine .inl ⟨Nat.le_of_not_lt hjn, acc4, y1, ?_, y3⟩
        have e : j = manyOf ws i := by omega
        subst e
        rw [spotsTo_more]
        exact y2
    · refine .inl ⟨⟨xs, ha2, by omega⟩, ?_⟩
      have e : i = ws.length := by omega
      subst e
      have hD0 : H D = none := by
        cases z : H D with
        | none => rfl
        | some o =>
          have z2 := s1 _ _ z
          rw [hD] at z2
          cases z2
      exact k2 ws rfl q H2 D acc (s1.trans s2) hD0 h1 h2
end
end Own
/-! The law's word for what a call comes to. -/
namespace Own
open PySem PySem.Spec PyProof.Rows L2
abbrev sWrd : Stmt := top1 30
def eqBv (k : Bool) : Value → Bool
  | .bool b => b == k
  | _ => false
theorem vals_bls : ∀ {bs : List Bool} {us : List Value}, Vals (bs.map V.bl) us → us = bs.map Value.bool
  | [], _, .nil => rfl
  | _ :: _, _, .cons r t => by
    have h1 := vals_bls t
    cases r
    rw [h1]
    rfl
theorem count_eqBv (k : Bool) : ∀ bs : List Bool, (bs.map Value.bool).countP (eqBv k) = bs.count k
  | [] => rfl
  | b :: r => by
    rw [List.map_cons, List.countP_cons, List.count_cons, count_eqBv k r]
    rfl
def rCntB (K : PySem.W.Frag) : V → List V → Hp → VK → Prop := fun x xs H Q => ∃ (p : Addr) (bs : List Bool) (k : Bool), x = .ref p ∧ xs = [.bl k] ∧ SqL K H p (bs.map V.bl) ∧ Q (.int (bs.count k : Nat)) H
theorem mt_lcountB {X : Cx} : MtR X "list.count" (rCntB X.K) := by
  intro pins s σ H x xs v us Q I rx rxs h
  obtain ⟨p, bs, k, rfl, rfl, hs, q⟩ := h
  cases rx
  obtain ⟨u, rfl, ru⟩ := rxs.one
  cases ru
  obtain ⟨its, rv, ⟨⟨cls, dd, data, sl⟩, n, ho, hc, hdn, hd⟩, hlen⟩ := I.list hs
  simp only at hc hd
  subst hc hd
  have ei := vals_bls rv
  subst ei
  refine call_meets PySem.F.slot_list_count ⟨_, ho, rfl⟩ PySem.F.entry_list_count (PySem.F.args_list_count_2 _ _)
    (SeqAt.list_countAt p (bs.map Value.bool).toArray n dd sl (.bool k) (eqBv k)) ⟨ho, fun y hy => ?_, ?_⟩
  · obtain ⟨b, _, rfl⟩ := List.mem_map.mp (show y ∈ bs.map Value.bool by simpa using hy)
    exact eqAt_V (y := .bl b) (x := .bl k) rfl rfl rfl rfl
  · refine ⟨.int (bs.count k : Nat), H, I.tok _, ⟨s.toks, ?_⟩, q⟩
    show Value.int (((bs.map Value.bool).toArray.toList.countP (eqBv k) : Nat) : Int) s.toks = Value.int ((bs.count k : Nat) : Int) s.toks
    rw [List.toList_toArray, count_eqBv]
def nmE (i : Nat) : Str := (["InvalidWidth", "InvalidHash", "InvalidShape", "InvalidMove"] : List Str).getD i ""
def wdE (i : Nat) : Str := (["width", "hash", "shape", "move"] : List Str).getD i ""
/-- what the module's end says of the errors -/
structure TWd (K : PySem.W.Frag) (mg : Str → Option Value) (c : Nat → Addr) (cE : Addr) : Prop where
  g : ∀ i, i < 4 → mg (nmE i) = some (.ref (c i))
  gE : mg "CursorError" = some (.ref cE)
  ex : ∀ i, i < 4 → ExcC K (c i)
  ki : ∀ i j, i < 4 → j < 4 → PySem.W.kitOne K (.ref (c i)) (.ref (c j)) = some (decide (i = j))
  kn : ∀ j, j < 4 → PySem.W.kitOne K (.type "NoneType") (.ref (c j)) = some false
  kv : ∀ i, i < 4 → PySem.W.kitOne K (.ref (c i)) (.type "ValueError") = some true
  xm : ∀ i, i < 4 → PySem.W.exmOne K (.ref (c i)) (.ref cE) = some true
  isinstance : mg "isinstance" = none
  repr : mg "repr" = none
  ve : mg "ValueError" = none
/-- what the word is of what is called: the shown result, or the error's word -/
def TWrd (K : PySem.W.Frag) (c : Nat → Addr) : (XK → Hp → VK → Prop) → Hp → VK → Prop := fun tl H Q =>
  ∀ H0, Same H H0 → ∀ (E1 : XK) (Q1 : VK), (∀ i H1, i < 4 → (∀ H2, Same H1 H2 → Q (.str (wdE i)) H2) → E1 (.ref (c i)) none H1) →
    (∀ v d H1, Dv K H1 v d → okD d = true → d.shown.length ≤ sizeLine → d.depth ≤ 40 → (∀ H2, Same H1 H2 → Q (.str d.shown) H2) → Q1 v H1) → tl E1 H0 Q1
/-- the slots stay as many -/
theorem takes_len {X : Cx} {W : WX} (tk : Takes X W) : Takes X fun cls d σ H => σ.length = X.N.length → W cls d σ H := by
  rintro u s ⟨a, B, sI, pins, σ, H, cls, d, e, I, nb, up, sky, na, os, ag, h⟩
  exact tk u s ⟨a, B, sI, pins, σ, H, cls, d, e, I, nb, up, sky, na, os, ag, h I.len⟩
theorem sc_wrd : FnScope ["act", "caught", "found", "e", "kinds"] ["act"] (defScope sWrd) := ⟨rfl, rfl, rfl, by decide +kernel, rfl, by decide +kernel, by decide +kernel⟩
theorem wrd_gives {X : Cx} {q : Str} {g cE : Addr} {c : Nat → Addr} {cdg : Value} {k : Nat} (hg : X.A.guards = some []) (hr : Room (k + 1) X.A) (T : TWd X.K X.mg c cE) :
    LamX.GivesTo X ["act", "caught", "found", "e", "kinds"] "_law_word" (defScope sWrd) g cdg (defBody sWrd) "act" q (TWrd X.K c) := by
  intro f c1 s H Q tl act hc h
  have hr2 := hr.deeper (envOfC "_law_word" (defScope sWrd) s.heap.objs.size g cdg)
  have hu2 : (X.A.deeper (envOfC "_law_word" (defScope sWrd) s.heap.objs.size g cdg)).units + 64 < cLine := by
    have z := hr2.units
    omega
  have hg2 : (cxOf C8.CX0 X.prog X.w X.K X.mg X.base ["act", "caught", "found", "e", "kinds"] "_law_word" (defScope sWrd) g cdg X.A X.stack s H C8.E0).nox.A.guards = some [] := hg
  have hb : ∀ (W : WX) (pn : List (Addr × Obj)) (xe : Value → Shared → Prop), Takes ((cxOf C8.CX0 X.prog X.w X.K X.mg X.base ["act", "caught", "found", "e", "kinds"] "_law_word" (defScope sWrd) g cdg X.A X.stack s H C8.E0).nox.tr pn xe) W → ∀ {np p1 p2 p3 : Pos},
      PSs ((cxOf C8.CX0 X.prog X.w X.K X.mg X.base ["act", "caught", "found", "e", "kinds"] "_law_word" (defScope sWrd) g cdg X.A X.stack s H C8.E0).nox.tr pn xe) [.Assign [.Name "found" np] (.Call (.Name "act" p1) [] [] p2) p3] (fun D σ H => ∃ Ech : XK, (∀ cls d σ1 H1, σ1.length = 5 → Ech cls d H1 → W cls d σ1 H1) ∧ σ[0]? = some (some (.ref f)) ∧ H c1 = some (LamX.CodeO c1 q) ∧ tl Ech H fun v H1 => D.nx (σ.set 2 (some v)) H1) := by
    intro W pn xe tk np p1 p2 p3
    refine ⟨fun pins s1 σ H1 D I h1 => ?_⟩
    obtain ⟨Ech, hW, g1, g2, g3⟩ := h1
    have hp := act (fun cls d σ H => σ.length = 5 → W cls d σ H) pn xe Ech p1 p2 (takes_len tk) fun cls d σ1 H1 he hl => hW cls d σ1 H1 hl he
    have hq := pss_one (ps_set (i := 2) (pos := p3) (pos' := np) sc_wrd.nd rfl (.inl rfl) hp)
    exact hq.run pins s1 σ H1 D I ⟨g1, g2, g3⟩
  refine ⟨_, (pss_cons (ps_asg (pe_tup (pa_cons (pe_non) (pa_cons (pe_non) pa_nil))) (pg_tup rfl (pgs_cons (pg_name (i := 1) sc_wrd.nd rfl (.inl rfl)) (pgs_cons (pg_name (i := 2) sc_wrd.nd rfl (.inl rfl)) pgs_nil))))
        (pss_cons (ps_try_keep (c := .ref cE) (i := 3) (tb := fun W D σ H => ∃ Ech : XK, (∀ cls d σ1 H1, σ1.length = 5 → Ech cls d H1 → W cls d σ1 H1) ∧ σ[0]? = some (some (.ref f)) ∧ H c1 = some (LamX.CodeO c1 q) ∧ tl Ech H fun v H1 => D.nx (σ.set 2 (some v)) H1) rfl rfl sc_wrd.nd rfl rfl rfl ⟨by rfl, by decide, .inl T.gE⟩ LamX.takes0 (fun W pn xe tk _ => hb W pn xe tk) (fun a oe cls d pn hz hf => pss_one (ps_set (i := 1) sc_wrd.nd rfl (.inl rfl) (pv 3))))
        (pss_cons (ps_set (i := 4) sc_wrd.nd rfl (.inl rfl) (pe_lst (pa_cons (pe_callB call_isC (by rfl) T.isinstance (by decide +kernel) (pa_cons (pv 1) (pa_cons (pe_glob (v := .ref (c 0)) (by rfl) (T.g 0 (by decide)) rfl) pa_nil))) (pa_cons (pe_callB call_isC (by rfl) T.isinstance (by decide +kernel) (pa_cons (pv 1) (pa_cons (pe_glob (v := .ref (c 1)) (by rfl) (T.g 1 (by decide)) rfl) pa_nil))) (pa_cons (pe_callB call_isC (by rfl) T.isinstance (by decide +kernel) (pa_cons (pv 1) (pa_cons (pe_glob (v := .ref (c 2)) (by rfl) (T.g 2 (by decide)) rfl) pa_nil))) pa_nil)))))
        (pss_cons (ps_expr (pe_bm PySem.F.plainAttrs_list PySem.F.slot_list_append PySem.F.type_list_append mt_append (pv 4) (pa_cons (pe_callB call_isC (by rfl) T.isinstance (by decide +kernel) (pa_cons (pv 1) (pa_cons (pe_glob (v := .ref (c 3)) (by rfl) (T.g 3 (by decide)) rfl) pa_nil))) pa_nil)))
        (pss_cons (ps_if (pt_cmp (pc_isN (pv 1)) rfl) (pss_one (ps_ret (pe_callB (call_repr hg2 hu2) (by rfl) T.repr (by decide +kernel) (pa_cons (pv 2) pa_nil)))) pss_nil)
        (pss_cons (ps_if (PW.pt (pw_or (pt_cmpR op_ne (pe_bm PySem.F.plainAttrs_list PySem.F.slot_list_count PySem.F.type_list_count mt_lcountB (pv 4) (pa_cons pe_bl pa_nil)) (pe_int) (nomark _)) (pw_or1 (pt_not (pt_val (pe_callB call_isC (by rfl) T.isinstance (by decide +kernel) (pa_cons (pv 1) (pa_cons (pe_bltn (v := .ty "ValueError") (by rfl) T.ve (by decide +kernel) rfl) pa_nil)))))))) (pss_one (ps_ret (pe_str))) pss_nil)
        (pss_one (ps_ret (pe_ix ix_list (pe_lst (pa_cons (pe_str) (pa_cons (pe_str) (pa_cons (pe_str) (pa_cons (pe_str) pa_nil))))) (pe_bm PySem.F.plainAttrs_list PySem.F.slot_list_index PySem.F.type_list_index mt_index (pv 4) (pa_cons pe_bl pa_nil)) (fun _ _ => rfl)))))))))), ?_⟩
  refine ⟨by show 2 ≤ sizeLine; decide, fun p hp => ⟨p, _, rfl, SqT.of upd_same, rfl, _, _, rfl, _, _, rfl, rfl, ?_⟩⟩
  have s1 : Same H (upd H p (.tup [.non, .non])) := sameN hp
  have hc1 := s1 _ _ hc
  have h0 := h _ s1
  generalize upd H p (.tup [.non, .non]) = H1 at s1 hc1 h0 ⊢
  have T0 := T.kn 0 (by decide)
  have T1 := T.kn 1 (by decide)
  have T2 := T.kn 2 (by decide)
  have T3 := T.kn 3 (by decide)
  refine ⟨fun cls d H1 => ∃ i, i < 4 ∧ cls = .ref (c i) ∧ d = none ∧ ∀ H2, Same H1 H2 → Q (.str (wdE i)) H2, ?_, rfl, hc1, h0 _ _ (fun i H2 hi k => ⟨i, hi, rfl, rfl, k⟩) fun v d H2 hv ok hz hdp k => ?_⟩
  rotate_left
  · refine ⟨_, rfl, .non, .ref (c 0), .ref (c 0), false, rfl, .own _, .inl ⟨rfl, T0⟩, _, rfl, .non, .ref (c 1), .ref (c 1), false, rfl, .own _, .inl ⟨rfl, T1⟩, _, rfl, .non, .ref (c 2), .ref (c 2), false, rfl, .own _, .inl ⟨rfl, T2⟩, by show 3 ≤ sizeLine; decide, fun l hl => ?_⟩
    refine ⟨_, rfl, .inl ⟨rfl, _, SqL.of upd_same⟩, _, rfl, .non, .ref (c 3), .ref (c 3), false, rfl, .own _, .inl ⟨rfl, T3⟩, l, _, _, rfl, rfl, upd_same, by show 3 < sizeLine; decide, ?_⟩
    have s3 : Same H2 (upd (upd H2 l (.lst [.bl false, .bl false, .bl false])) l (.lst [.bl false, .bl false, .bl false, .bl false])) := fun b o e => by
      rw [upd_ne (ne_of_none e hl), upd_ne (ne_of_none e hl)]
      exact e
    exact ⟨_, rfl, _, rfl, _, rfl, v, d, rfl, hv.same s3, ok, hz, hdp, k _ s3⟩
  · rintro cls d σ1 H2 hl ⟨i, hi, rfl, rfl, k⟩
    obtain ⟨x0, x1, x2, x3, x4, rfl⟩ : ∃ x0 x1 x2 x3 x4, σ1 = [x0, x1, x2, x3, x4] := by
      match σ1, hl with
      | [x0, x1, x2, x3, x4], _ => exact ⟨x0, x1, x2, x3, x4, rfl⟩
    refine ⟨true, T.xm i hi, fun _ a ha => ?_, fun z => nomatch z⟩
    have s2 : Same H2 (upd H2 a (CauE (.ref (c i)) none a)) := sameN ha
    have ea : upd H2 a (CauE (.ref (c i)) none a) a = some (CauE (.ref (c i)) none a) := upd_same
    refine ⟨_, rfl, ?_⟩
    refine ⟨_, rfl, .ref a, .ref (c 0), .ref (c 0), _, rfl, .own _, .inr ⟨a, c i, rfl, ea, T.ex i hi, T.ki i 0 hi (by decide)⟩, _, rfl, .ref a, .ref (c 1), .ref (c 1), _, rfl, .own _, .inr ⟨a, c i, rfl, ea, T.ex i hi, T.ki i 1 hi (by decide)⟩,
      _, rfl, .ref a, .ref (c 2), .ref (c 2), _, rfl, .own _, .inr ⟨a, c i, rfl, ea, T.ex i hi, T.ki i 2 hi (by decide)⟩, by show 3 ≤ sizeLine; decide, fun l hl => ?_⟩
    have nal : a ≠ l := ne_of_none ea hl
    have ea2 : (upd (upd H2 a (CauE (.ref (c i)) none a)) l (.lst [.bl (decide (i = 0)), .bl (decide (i = 1)), .bl (decide (i = 2))])) a = some (CauE (.ref (c i)) none a) := by
      rw [upd_ne nal]
      exact ea
    refine ⟨_, rfl, .inl ⟨rfl, _, SqL.of upd_same⟩, _, rfl, .ref a, .ref (c 3), .ref (c 3), _, rfl, .own _, .inr ⟨a, c i, rfl, ea2, T.ex i hi, T.ki i 3 hi (by decide)⟩, l, _, _, rfl, rfl, upd_same, by show 3 < sizeLine; decide, ?_⟩
    rw [upd_upd]
    have el : (upd (upd H2 a (CauE (.ref (c i)) none a)) l (.lst ([.bl (decide (i = 0)), .bl (decide (i = 1)), .bl (decide (i = 2))] ++ [.bl (decide (i = 3))]))) l = some (.lst (([decide (i = 0), decide (i = 1), decide (i = 2), decide (i = 3)] : List Bool).map V.bl)) := upd_same
    have ea3 : (upd (upd H2 a (CauE (.ref (c i)) none a)) l (.lst ([.bl (decide (i = 0)), .bl (decide (i = 1)), .bl (decide (i = 2))] ++ [.bl (decide (i = 3))]))) a = some (CauE (.ref (c i)) none a) := by
      rw [upd_ne nal]
      exact ea
    have s3 : Same H2 (upd (upd H2 a (CauE (.ref (c i)) none a)) l (.lst ([.bl (decide (i = 0)), .bl (decide (i = 1)), .bl (decide (i = 2))] ++ [.bl (decide (i = 3))]))) := s2.trans (sameN hl)
    generalize (upd (upd H2 a (CauE (.ref (c i)) none a)) l (.lst ([.bl (decide (i = 0)), .bl (decide (i = 1)), .bl (decide (i = 2))] ++ [.bl (decide (i = 3))]))) = H3 at el ea3 s3 ⊢
    refine ⟨_, rfl, _, rfl, iteNb rfl ?_⟩
    have cnt : ([decide (i = 0), decide (i = 1), decide (i = 2), decide (i = 3)] : List Bool).count true = 1 := by
      rcases (show i = 0 ∨ i = 1 ∨ i = 2 ∨ i = 3 by omega) with rfl | rfl | rfl | rfl <;> rfl
    refine ⟨_, rfl, .inl ⟨rfl, _, SqL.of el⟩, l, _, true, rfl, rfl, SqL.of el, ?_⟩
    rw [cnt]
    refine ⟨rfl, _, rfl, iteNb rfl ?_⟩
    refine ⟨_, rfl, .ref a, .ty "ValueError", .type "ValueError", _, rfl, .ty _, .inr ⟨a, c i, rfl, ea3, T.ex i hi, T.kv i hi⟩, _, rfl, iteNb rfl ?_⟩
    refine ⟨by show 4 ≤ sizeLine; decide, fun r hr3 => ?_⟩
    have nlr : l ≠ r := ne_of_none el hr3
    have s4 : Same H2 (upd H3 r (.lst [.str "width", .str "hash", .str "shape", .str "move"])) := s3.trans (sameN hr3)
    have el4 : (upd H3 r (.lst [.str "width", .str "hash", .str "shape", .str "move"])) l = some (.lst (([decide (i = 0), decide (i = 1), decide (i = 2), decide (i = 3)] : List Bool).map V.bl)) := by
      rw [upd_ne nlr]
      exact el
    have at_ : (([decide (i = 0), decide (i = 1), decide (i = 2), decide (i = 3)] : List Bool).map V.bl)[i]? = some (.bl true) := by
      rcases (show i = 0 ∨ i = 1 ∨ i = 2 ∨ i = 3 by omega) with rfl | rfl | rfl | rfl <;> rfl
    have first : ∀ (m : Nat) (z : V), m < i → (([decide (i = 0), decide (i = 1), decide (i = 2), decide (i = 3)] : List Bool).map V.bl)[m]? = some z → eqV z (.bl true) = false := by
      intro m z hm e
      rcases (show i = 0 ∨ i = 1 ∨ i = 2 ∨ i = 3 by omega) with rfl | rfl | rfl | rfl <;>
        rcases (show m = 0 ∨ m = 1 ∨ m = 2 by omega) with rfl | rfl | rfl <;>
          first | omega | (cases e; rfl)
    have it : ([.str "width", .str "hash", .str "shape", .str "move"] : List V)[i]? = some (.str (wdE i)) := by
      rcases (show i = 0 ∨ i = 1 ∨ i = 2 ∨ i = 3 by omega) with rfl | rfl | rfl | rfl <;> rfl
    refine ⟨_, rfl, .inl ⟨rfl, _, SqL.of el4⟩, l, _, .bl true, i, .bl true, rfl, rfl, SqL.of el4, rfl, rfl, at_, rfl, first, ?_⟩
    exact ⟨r, _, _, _, rfl, rfl, SqL.of upd_same, atI_nat it, k _ s4⟩
end Own
/-! The law's own reckoning of shapes and places. -/
namespace Own
open PySem PySem.Spec PyProof.Rows L2
abbrev sPow : Stmt := top1 26
abbrev sBel : Stmt := top1 28
abbrev sFig : Stmt := top1 29
abbrev sFgs : Stmt := top1 31
abbrev sSpo : Stmt := top1 32
def spPow : Sp := fun vs H Q _ => ∃ m : Int, vs = [.int m] ∧ 0 ≤ m ∧ m ≤ 5 ∧ ∀ H', Same H H' → Q (.int (2 ^ m.toNat)) H'
def spBel (K : PySem.W.Frag) : Sp := fun vs H Q _ => ∃ (v : V) (d : PyData) (n : Int), vs = [v, .int n] ∧ Dv K H v d ∧ Q (.bl (numIn 0 (n - 1) d)) H
section
variable {P : Program} {w : World} {K : PySem.W.Frag} {mg : Str → Option Value} {base : Heap}
theorem sc_pow : FnScope ["width"] ["width"] (defScope sPow) := ⟨rfl, rfl, rfl, by decide +kernel, rfl, by decide +kernel, by decide +kernel⟩
theorem ok_pow {f : Addr} {fd : FuncData} (F : Fun K "_law_power" "_law_power" sPow f fd) : FnOk P w K mg base CX0 1 f fd ["width"] spPow := by
  refine F.ok sc_pow (fun vs H Q E h => ?_) (fun cdv A outer s H vs Q E hr h => ?_)
  · obtain ⟨m, rfl, _⟩ := h
    rfl
  · obtain ⟨m, rfl, m0, m5, k⟩ := h
    refine ⟨_, (pss_one (ps_ret (pe_ix ix_list (pe_lst (pa_cons (pe_int) (pa_cons (pe_int) (pa_cons (pe_int) (pa_cons (pe_int) (pa_cons (pe_int) (pa_cons (pe_int) pa_nil))))))) (pv 0) (fun _ _ => rfl)))), ?_⟩
    refine ⟨by show 6 ≤ sizeLine; decide, fun l hl => ⟨_, rfl, l, _, _, _, rfl, rfl, SqL.of upd_same, ?_, k _ (sameN hl)⟩⟩
    rcases (show m = 0 ∨ m = 1 ∨ m = 2 ∨ m = 3 ∨ m = 4 ∨ m = 5 by omega) with rfl | rfl | rfl | rfl | rfl | rfl <;> rfl
theorem sc_bel : FnScope ["thing", "many"] ["thing", "many"] (defScope sBel) := ⟨rfl, rfl, rfl, by decide +kernel, rfl, by decide +kernel, by decide +kernel⟩
theorem ok_bel {f : Addr} {fd : FuncData} (F : Fun K "_law_is_below" "_law_is_below" sBel f fd) (T : Bi1 mg) : FnOk P w K mg base CX0 1 f fd ["thing", "many"] (spBel K) := by
  refine F.ok sc_bel (fun vs H Q E h => ?_) (fun cdv A outer s H vs Q E hr h => ?_)
  · obtain ⟨v, d, n, rfl, _⟩ := h
    rfl
  · obtain ⟨v, d, n, rfl, hd, k⟩ := h
    refine ⟨_, (pss_one (ps_ret (pe_and (pe_callB call_isi (by rfl) T.isinstance (by decide +kernel) (pa_cons (pv 0) (pa_cons (pe_bltn (v := .ty "int") (by rfl) T.int (by decide +kernel) rfl) pa_nil))) (pe_and (pe_not (pe_callB call_isi (by rfl) T.isinstance (by decide +kernel) (pa_cons (pv 0) (pa_cons (pe_bltn (v := .ty "bool") (by rfl) T.bool (by decide +kernel) rfl) pa_nil)))) (pe_one (pe_chain op_le op_lt (pe_int) (pv 0) (pv 1))))))), ?_⟩
    have ty := hd.ty
    refine ⟨_, rfl, v, .ty "int", .type (tyD d), .type "int", _, rfl, .ty _, ty, kit_ty (kit_int d), _, rfl, ?_⟩
    refine ite2 (fun h1 => ?_) (fun h1 => ?_)
    · refine ⟨_, rfl, v, .ty "bool", .type (tyD d), .type "bool", _, rfl, .ty _, ty, kit_ty (kit_bool d), _, rfl, _, rfl, ?_⟩
      refine ite2 (fun h2 => ?_) (fun h2 => ?_)
      · obtain ⟨i, rfl⟩ : ∃ i, d = .int i := by
          cases d with
          | int i => exact ⟨i, rfl⟩
          | bool b => cases h2
          | _ => cases h1
        obtain rfl := hd.int_inv
        refine ⟨_, rfl, _, _, rfl, rfl, _, rfl, ?_⟩
        have e : numIn 0 (n - 1) (.int i) = (decide (0 ≤ i) && decide (i < n)) := by
          show (decide (0 ≤ i) && decide (i ≤ n - 1)) = _
          congr 1
          exact decide_eq_decide.mpr (by omega)
        rw [e] at k
        refine ite2 (fun h3 => ?_) (fun h3 => ?_)
        · rw [h3, Bool.true_and] at k
          exact ⟨_, rfl, _, _, rfl, rfl, k⟩
        · rw [Bool.eq_false_iff.mpr h3, Bool.false_and] at k
          exact k
      · have e : numIn 0 (n - 1) d = false := by
          cases d with
          | int i => exact absurd rfl h2
          | _ => rfl
        rw [e] at k
        exact k
    · have e : numIn 0 (n - 1) d = false := by
        cases d with
        | int i => exact absurd rfl h1
        | _ => rfl
      rw [e] at k
      exact k
abbrev CalBel (P : Program) (w : World) (K : PySem.W.Frag) (mg : Str → Option Value) (base : Heap) : Prop := Cal P w K mg base CX0 1 "_law_is_below" ["thing", "many"] (spBel K)
abbrev CalPow (P : Program) (w : World) (K : PySem.W.Frag) (mg : Str → Option Value) (base : Heap) : Prop := Cal P w K mg base CX0 1 "_law_power" ["width"] spPow
theorem sc_fig : FnScope ["thing", "one"] ["thing"] (defScope sFig) := ⟨rfl, rfl, rfl, by decide +kernel, rfl, by decide +kernel, by decide +kernel⟩
theorem ok_fig {f : Addr} {fd : FuncData} (F : Fun K "_law_is_figure" "_law_is_figure" sFig f fd) (T : Bi1 mg) (CB : CalBel P w K mg base) : FnOk P w K mg base CX0 2 f fd ["thing"] (spShp K) := by
  obtain ⟨fB, fdB, GB, gB, kB, bB⟩ := CB
  refine F.ok sc_fig (fun vs H Q E h => ?_) (fun cdv A outer s H vs Q E hr h => ?_)
  · obtain ⟨v, d, rfl, _⟩ := h
    rfl
  · obtain ⟨v, d, rfl, hd, k⟩ := h
    refine ⟨_, (pss_cons (ps_if (PW.pt (pw_or (pt_not (pt_val (pe_callB call_isi (by rfl) T.isinstance (by decide +kernel) (pa_cons (pv 0) (pa_cons (pe_bltn (v := .ty "tuple") (by rfl) T.tuple (by decide +kernel) rfl) pa_nil))))) (pw_or (pt_cmpR op_notIn_seq (pe_callB call_len_seq (by rfl) T.len PySem.boot_len (pa_cons (pv 0) pa_nil)) (pe_tup (pa_cons (pe_int) (pa_cons (pe_int) pa_nil))) (by rfl)) (pw_or1 (pt_not (pt_val (pe_callB (cr_all rfl) (by rfl) T.all (by decide +kernel) (pa_cons (pe_lc (own := [("one", 1)]) (g := gName 1) rfl sc_fig.nd (pi_tup (pv 0)) (blkOk_by (N := ["thing", "one"]) (sc := defScope sFig) (by decide +kernel)) (fun _ _ _ _ _ => (pg_name (i := 1) sc_fig.nd rfl (.inl rfl))) (fun _ _ _ _ _ => pts_nil) (fun _ _ _ _ _ => (pe_call GB hr (by rfl) gB kB bB .nil pass0 (pa_cons (pv 1) (pa_cons (pe_int) pa_nil))))) pa_nil)))))))) (pss_one (ps_ret (pe_bl))) pss_nil)
        (pss_one (ps_ret (pe_or (pe_cmpR op_eq (pe_callB call_len_seq (by rfl) T.len PySem.boot_len (pa_cons (pv 0) pa_nil)) (pe_int) (nomark _)) (pe_one (pe_cmpR op_ne (pe_ix ix_tup (pv 0) (pe_int) (fun _ _ => rfl)) (pe_ix ix_tup (pv 0) (pe_int) (fun _ _ => rfl)) (nomark _))))))), ?_⟩
    refine ⟨_, rfl, v, .ty "tuple", .type (tyD d), .type "tuple", _, rfl, .ty _, hd.ty, kit_ty (kit_tuple d), _, rfl, ?_⟩
    cases ht : isT d with
    | false =>
      have z := k H (Same.refl _)
      rw [fig_not ht] at z
      exact z
    | true =>
      obtain ⟨ds, rfl⟩ := isT_some ht
      obtain ⟨a, xs, rfl, ha, hx⟩ := hd.tup_inv
      have hlen := hx.len
      refine ⟨_, rfl, a, xs, rfl, .inr ha, by show 2 ≤ sizeLine; decide, fun t ht => ?_⟩
      have s1 : Same H (upd H t (.tup [.int 1, .int 2])) := sameN ht
      refine ⟨t, _, rfl, .inr (SqT.of upd_same), rfl, rfl, _, rfl, ?_⟩
      have ha1 := sqT_same s1 ha
      have hx1 := hx.same s1
      generalize upd H t (.tup [.int 1, .int 2]) = H1 at s1 ha1 hx1
      by_cases n12 : xs.length = 1 ∨ xs.length = 2
      · have e12 : (!inV (.int (xs.length : Int)) [V.int 1, V.int 2]) = false := by
          rcases n12 with e | e <;> rw [e] <;> rfl
        refine iteNb e12 ?_
        refine ⟨_, rfl, a, rfl, ⟨xs, ha1⟩, fun D hD => lc_tup (xs := xs) (fun i H' => H' D = some (.lst (bsT (numIn 0 5) ds i)) ∧ Same H1 H') ⟨upd_same, sameN hD⟩ (fun i H' _ ⟨_, s2⟩ => sqT_same s2 ha1) (fun i x H' hi ⟨h1, s2⟩ => ?_) (fun H' ⟨h1, s2⟩ => ?_)⟩
        · obtain ⟨dx, ex, hdx⟩ := hx.get hi
          refine ⟨rfl, _, rfl, x, dx, 6, rfl, (hdx.same s1).same s2, _, h1, ?_, ?_, ?_⟩
          · unfold bsT
            rw [List.length_map, List.length_take]
            have h1 := (List.getElem?_eq_some_iff.mp hi).1
            have h2 : min i ds.length ≤ i := Nat.min_le_left _ _
            exact Nat.lt_of_lt_of_le (show min i ds.length < 3 by omega) (by decide : 3 ≤ sizeLine)
          · rw [upd_same, bsT_more ex]
            try rfl
          · intro b o e
            rw [upd_ne (ne_of_none e hD)]
            exact s2 _ _ e
        · rw [hlen, bsT_all] at h1
          have s3 : Same H H' := s1.trans s2
          have ha3 := sqT_same s3 ha
          have kk := k H' s3
          refine ⟨D, _, rfl, SqL.of h1, _, rfl, ?_⟩
          clear hd e12 k
          cases hx with
          | nil => exact absurd n12 (by simp)
          | @cons x xr d dr hd hr2 =>
            cases hr2 with
            | nil =>
              rw [fig_one] at kk
              cases q : numIn 0 5 d with
              | false =>
                have e : (!(([d].map (numIn 0 5)).all id)) = true := by simp [q]
                rw [q] at kk
                exact iteYb e kk
              | true =>
                have e : (!(([d].map (numIn 0 5)).all id)) = false := by simp [q]
                refine iteNb e ?_
                rw [q] at kk
                refine ⟨_, rfl, a, _, rfl, .inr ha3, rfl, _, rfl, iteT ?_⟩
                exact kk
            | @cons y yr e er he hr3 =>
              cases hr3 with
              | cons _ _ => exact absurd n12 (by simp)
              | nil =>
                rw [fig_two] at kk
                cases q : numIn 0 5 d with
                | false =>
                  have e1 : (!(([d, e].map (numIn 0 5)).all id)) = true := by simp [q]
                  rw [q] at kk
                  exact iteYb e1 kk
                | true =>
                  cases q2 : numIn 0 5 e with
                  | false =>
                    have e1 : (!(([d, e].map (numIn 0 5)).all id)) = true := by simp [q2]
                    rw [q2, Bool.and_false, Bool.false_and] at kk
                    exact iteYb e1 kk
                  | true =>
                    have e1 : (!(([d, e].map (numIn 0 5)).all id)) = false := by simp [q, q2]
                    refine iteNb e1 ?_
                    rw [q, q2, Bool.and_true, Bool.true_and] at kk
                    obtain ⟨i, rfl, _, _⟩ := numIn_some q
                    obtain ⟨j, rfl, _, _⟩ := numIn_some q2
                    obtain rfl := hd.int_inv
                    obtain rfl := he.int_inv
                    refine ⟨_, rfl, a, _, rfl, .inr ha3, rfl, _, rfl, iteF ?_⟩
                    have e2 : decide (intOf (PyData.int i) ≠ intOf (PyData.int j)) = !decide (V.int i = V.int j) := by
                      show decide (i ≠ j) = _
                      by_cases h : i = j <;> simp [h]
                    rw [e2] at kk
                    refine ⟨_, rfl, a, _, 0, _, rfl, rfl, ha3, atI_nat (j := 0) rfl, _, rfl, a, _, 1, _, rfl, rfl, ha3, atI_nat (j := 1) rfl, rfl, ?_⟩
                    exact kk
      · have z := k H1 s1
        rw [fig_len (by omega) (by omega)] at z
        have e1 : (!inV (.int (xs.length : Int)) [V.int 1, V.int 2]) = true := by
          have n1 : ¬ (1 : Int) = xs.length := by omega
          have n2 : ¬ (2 : Int) = xs.length := by omega
          simp [inV, eqV, n1, n2]
        exact iteYb e1 z
abbrev CalFig (P : Program) (w : World) (K : PySem.W.Frag) (mg : Str → Option Value) (base : Heap) : Prop := Cal P w K mg base CX0 2 "_law_is_figure" ["thing"] (spShp K)
end
end Own
/-! The law's list of places, and of shapes. -/
namespace Own
open PySem PySem.Spec PyProof.Rows L2
theorem many_at {ws : List PyData} {i : Nat} {m : Int} (e : ws[i]? = some (.int m)) (m0 : 0 ≤ m) (m5 : m ≤ 5) : (2 : Int) ^ m.toNat = ((manyOf ws i : Nat) : Int) ∧ manyOf ws i ≤ 32 := by
  have en : manyOf ws i = 2 ^ m.toNat := by
    unfold manyOf
    rw [List.getD_eq_getElem?_getD, e]
    rfl
  rw [en]
  rcases (show m = 0 ∨ m = 1 ∨ m = 2 ∨ m = 3 ∨ m = 4 ∨ m = 5 by omega) with rfl | rfl | rfl | rfl | rfl | rfl <;> exact ⟨rfl, by decide⟩
theorem many_le {ws : List PyData} (hw : ∀ (i : Nat) (x : PyData), ws[i]? = some x → ∃ m, x = .int m ∧ 0 ≤ m ∧ m ≤ 5) (t : Nat) : manyOf ws t ≤ 32 := by
  by_cases ht : t < ws.length
  · obtain ⟨m, e, m0, m5⟩ := hw t _ (List.getElem?_eq_getElem ht)
    exact (many_at (by rw [List.getElem?_eq_getElem ht, e]) m0 m5).2
  · unfold manyOf
    rw [List.getD_eq_getElem?_getD, List.getElem?_eq_none (by omega)]
    decide
theorem SpotsAt.app {H : Hp} : ∀ {vs us : List V} {r q : List (Int × Int)}, SpotsAt H vs r → SpotsAt H us q → SpotsAt H (vs ++ us) (r ++ q)
  | [], _, [], _, _, h => h
  | _ :: _, _, _ :: _, _, ⟨a, b⟩, h => ⟨a, SpotsAt.app b h⟩
  | [], _, _ :: _, _, z, _ => z.elim
  | _ :: _, _, [], _, z, _ => z.elim
theorem SpotsAt.same {H H' : Hp} (s : Same H H') {vs : List V} {r : List (Int × Int)} (h : SpotsAt H vs r) : SpotsAt H' vs r := h.keep fun p xs e => s _ _ e
def spSpo (K : PySem.W.Frag) : Sp := fun vs H Q _ => ∃ (v : V) (ws : List PyData), vs = [v] ∧ Dv K H v (.tuple ws) ∧ isFig (.tuple ws) = true ∧ ∀ H' D xs, Same H H' → H D = none → H' D = some (.lst xs) → SpotsAt H' xs (spotsTo ws ws.length) → Q (.ref D) H'
section
variable {P : Program} {w : World} {K : PySem.W.Frag} {mg : Str → Option Value} {base : Heap}
theorem sc_spo : FnScope ["figure", "found", "table", "k"] ["figure"] (defScope sSpo) := ⟨rfl, rfl, rfl, by decide +kernel, rfl, by decide +kernel, by decide +kernel⟩
theorem ok_spo {f : Addr} {fd : FuncData} (F : Fun K "_law_spots" "_law_spots" sSpo f fd) (T : Bi1 mg) (CP : CalPow P w K mg base) : FnOk P w K mg base CX0 2 f fd ["figure"] (spSpo K) := by
  obtain ⟨fP, fdP, GP, gP, kP, bP⟩ := CP
  refine F.ok sc_spo (fun vs H Q E h => ?_) (fun cdv A outer s H vs Q E hr h => ?_)
  · obtain ⟨v, ws, rfl, _⟩ := h
    rfl
  · obtain ⟨v, ws, rfl, hd, q, k⟩ := h
    have hrP : Room 1 _ := hr
    obtain ⟨ws', ew, hl, hw⟩ := fig_tup q
    cases ew
    obtain ⟨a, xs, rfl, ha, hx⟩ := hd.tup_inv
    have lx := hx.len
    refine ⟨_, (pss_cons (ps_set (i := 1) sc_spo.nd rfl (.inl rfl) (pe_lst pa_nil))
        (pss_cons (ps_for PassesOwn.never rfl (pi_range1 (by rfl) T.range (pa_cons (pe_callB call_len_seq (by rfl) T.len PySem.boot_len (pa_cons (pv 0) pa_nil)) pa_nil)) (pg_name (i := 2) sc_spo.nd rfl (.inr rfl)) (pss_one (ps_set (i := 1) sc_spo.nd rfl (.inl rfl) (pe_op op_cat (pv 1) (pe_lc (own := [("k", 3)]) (g := gName 3) rfl sc_spo.nd (pi_range1 (by rfl) T.range (pa_cons (pe_call GP hrP (by rfl) gP kP bP .nil pass0 (pa_cons (pe_ix ix_tup (pv 0) (pv 2) (fun _ _ => rfl)) pa_nil)) pa_nil)) (blkOk_by (N := ["figure", "found", "table", "k"]) (sc := defScope sSpo) (by decide +kernel)) (fun _ _ _ _ _ => (pg_name (i := 3) sc_spo.nd rfl (.inl rfl))) (fun _ _ _ _ _ => pts_nil) (fun _ _ _ _ _ => (pe_tup (pa_cons (pv 2) (pa_cons (pv 3) pa_nil)))))))))
        (pss_one (ps_ret (pv 1))))), ?_⟩
    refine ⟨by show 0 ≤ sizeLine; exact Nat.zero_le _, fun D hD => ?_⟩
    refine ⟨_, rfl, a, xs, rfl, .inr (sqT_same (sameN hD) ha), (xs.length : Int), rfl, by omega, by omega, ?_⟩
    rw [Int.toNat_natCast, lx]
    refine for_range (n := ws.length) (fun i σ H' => ∃ l acc v, σ = [some (.ref a), some (.ref l), v, none] ∧ H' l = some (.lst acc) ∧ SpotsAt H' acc (spotsTo ws i) ∧ Same H H' ∧ H l = none) ⟨D, [], none, rfl, upd_same, trivial, sameN hD, hD⟩ ?_ ?_
    · rintro i σ H1 hi ⟨l, acc, v, rfl, h1, h2, s1, hl0⟩
      have hix : i < xs.length := by omega
      obtain ⟨dm, em, hm⟩ := hx.get (List.getElem?_eq_getElem hix)
      obtain ⟨m, rfl, m0, m5⟩ := hw i dm em
      have ex : xs[i]? = some (.int m) := by rw [List.getElem?_eq_getElem hix, hm.int_inv]
      obtain ⟨e2, e32⟩ := many_at em m0 m5
      refine ⟨_, rfl, _, rfl, _, rfl, a, xs, _, _, rfl, rfl, sqT_same s1 ha, ?_, m, rfl, m0, m5, fun H2 s2 => ?_⟩
      · rw [Int.zero_add]
        exact atI_nat ex
      rw [e2]
      refine ⟨_, rfl, by omega, by omega, fun D2 hD2 => ?_⟩
      rw [Int.toNat_natCast]
      have nlD : l ≠ D2 := fun z => by
        have z2 := s2 _ _ h1
        rw [z, hD2] at z2
        cases z2
      refine lc_range (lo := 0) (n := manyOf ws i) (fun j H3 => ∃ ac, H3 D2 = some (.lst ac) ∧ SpotsAt H3 ac (rowOf i j) ∧ Same H2 H3) ⟨[], upd_same, trivial, sameN hD2⟩ ?_ ?_
      · rintro j H3 hj ⟨ac, y1, y2, y3⟩
        refine ⟨rfl, _, rfl, _, rfl, by show 2 ≤ sizeLine; decide, fun p hp => ⟨ac, ?_, ?_, ac ++ [.ref p], upd_same, ?_, ?_⟩⟩
        · rw [upd_ne (ne_of_none y1 hp)]
          exact y1
        · rw [y2.len, rowOf_len]
          exact Nat.lt_of_lt_of_le (show j < 1000 by omega) (by decide : 1000 ≤ sizeLine)
        · rw [rowOf_more]
          have npD : p ≠ D2 := fun z => by rw [z, y1] at hp; cases hp
          refine SpotsAt.more ⟨p, rfl, ?_⟩ (y2.keep fun b ys e => ?_)
          · rw [upd_ne npD, upd_same, Int.zero_add, Int.zero_add]
          · rw [upd_ne (fun z => by rw [z, y1] at e; cases e), upd_ne (ne_of_none e hp)]
            exact e
        · intro b o e
          rw [upd_ne (ne_of_none e hD2), upd_ne (ne_of_none (y3 _ _ e) hp)]
          exact y3 _ _ e
      · rintro H3 ⟨ac, y1, y2, y3⟩
        have s3 := s2.trans y3
        refine ⟨l, D2, acc, ac, rfl, rfl, s3 _ _ h1, y1, ?_, fun p hp => ?_⟩
        · rw [h2.len, y2.len, rowOf_len]
          have l1 := spotsTo_len (ws := ws) (many_le hw) i
          exact Nat.le_trans (show (spotsTo ws i).length + manyOf ws i ≤ 1000 by omega) (by decide : 1000 ≤ sizeLine)
        · have s4 : Same H3 (upd H3 p (.lst (acc ++ ac))) := sameN hp
          refine ⟨p, acc ++ ac, _, rfl, upd_same, ?_, (s1.trans s3).trans s4, ?_⟩
          · rw [spotsTo_more]
            exact (h2.same (s3.trans s4)).app (y2.same s4)
          · cases z : H p with
            | none => rfl
            | some o =>
              have z2 := (s1.trans s3) _ _ z
              rw [hp] at z2
              cases z2
    · rintro σ H1 ⟨l, acc, v, rfl, h1, h2, s1, hl0⟩
      exact ⟨_, rfl, k H1 l acc s1 hl0 h1 h2⟩
end
end Own
/-! The law's list of all shapes. -/
namespace Own
open PySem PySem.Spec PyProof.Rows L2
/-- tuples of ints -/
def TupsAt (H : Hp) : List V → List (List Int) → Prop
  | [], [] => True
  | v :: vs, k :: r => (∃ p, v = .ref p ∧ H p = some (.tup (k.map V.int))) ∧ TupsAt H vs r
  | _, _ => False
theorem TupsAt.more {H : Hp} {v : V} {k : List Int} (h : ∃ p, v = .ref p ∧ H p = some (.tup (k.map V.int))) : ∀ {vs : List V} {r : List (List Int)}, TupsAt H vs r → TupsAt H (vs ++ [v]) (r ++ [k])
  | [], [], _ => ⟨h, trivial⟩
  | _ :: _, _ :: _, ⟨a, b⟩ => ⟨a, TupsAt.more h b⟩
  | [], _ :: _, z => z.elim
  | _ :: _, [], z => z.elim
theorem TupsAt.keep {H H' : Hp} (k : ∀ p xs, H p = some (.tup xs) → H' p = some (.tup xs)) : ∀ {vs : List V} {r : List (List Int)}, TupsAt H vs r → TupsAt H' vs r
  | [], [], _ => trivial
  | _ :: _, _ :: _, ⟨⟨p, e, h⟩, b⟩ => ⟨⟨p, e, k _ _ h⟩, TupsAt.keep k b⟩
  | [], _ :: _, z => z.elim
  | _ :: _, [], z => z.elim
theorem TupsAt.same {H H' : Hp} (s : Same H H') {vs : List V} {r : List (List Int)} (h : TupsAt H vs r) : TupsAt H' vs r := h.keep fun p xs e => s _ _ e
theorem TupsAt.len {H : Hp} : ∀ {vs : List V} {r : List (List Int)}, TupsAt H vs r → vs.length = r.length
  | [], [], _ => rfl
  | _ :: _, _ :: _, ⟨_, b⟩ => congrArg (· + 1) (TupsAt.len b)
  | [], _ :: _, z => z.elim
  | _ :: _, [], z => z.elim
theorem TupsAt.app {H : Hp} : ∀ {vs us : List V} {r q : List (List Int)}, TupsAt H vs r → TupsAt H us q → TupsAt H (vs ++ us) (r ++ q)
  | [], _, [], _, _, h => h
  | _ :: _, _, _ :: _, _, ⟨a, b⟩, h => ⟨a, TupsAt.app b h⟩
  | [], _, _ :: _, _, z, _ => z.elim
  | _ :: _, _, [], _, z, _ => z.elim
theorem TupsAt.get {H : Hp} : ∀ {vs : List V} {r : List (List Int)} {i : Nat}, TupsAt H vs r → i < r.length → ∃ p k, vs[i]? = some (.ref p) ∧ r[i]? = some k ∧ H p = some (.tup (k.map V.int))
  | _ :: _, _ :: _, 0, ⟨⟨p, e, h⟩, _⟩, _ => ⟨p, _, by rw [e]; rfl, rfl, h⟩
  | _ :: _, _ :: _, i + 1, ⟨_, b⟩, l => by
    obtain ⟨p, k, h1, h2, h3⟩ := TupsAt.get (i := i) b (by simpa using l)
    exact ⟨p, k, by simpa using h1, by simpa using h2, h3⟩
  | [], [], _, _, l => absurd l (by simp)
  | [], _ :: _, _, z, _ => z.elim
  | _ :: _, [], _, z, _ => z.elim
theorem dv_ints {K : PySem.W.Frag} {H : Hp} : ∀ k : List Int, DvAll K H (k.map V.int) (k.map PyData.int)
  | [] => .nil
  | i :: r => .cons (.int i) (dv_ints r)
/-- the shapes: of one table, of two tables with the first t -/
def onesTo (j : Nat) : List (List Int) := (List.range j).map fun t : Nat => [(t : Int)]
def pairsOf (t j : Nat) : List (List Int) := ((List.range j).filter fun o => decide (o ≠ t)).map fun o : Nat => [(t : Int), (o : Int)]
def figsTo (i : Nat) : List (List Int) := onesTo 6 ++ (List.range i).flatMap fun t => pairsOf t 6
theorem onesTo_more (j : Nat) : onesTo (j + 1) = onesTo j ++ [[(j : Int)]] := by
  unfold onesTo
  rw [List.range_succ, List.map_append]
  rfl
theorem pairsOf_same {t : Nat} : pairsOf t (t + 1) = pairsOf t t := by
  unfold pairsOf
  rw [List.range_succ, List.filter_append]
  simp
theorem pairsOf_more {t j : Nat} (h : j ≠ t) : pairsOf t (j + 1) = pairsOf t j ++ [[(t : Int), (j : Int)]] := by
  unfold pairsOf
  rw [List.range_succ, List.filter_append, List.map_append]
  simp [h]
theorem pairsOf_len (t j : Nat) : (pairsOf t j).length ≤ j := by
  unfold pairsOf
  rw [List.length_map]
  exact Nat.le_trans (List.length_filter_le _ _) (by rw [List.length_range]; exact Nat.le_refl _)
theorem figsTo_more (i : Nat) : figsTo (i + 1) = figsTo i ++ pairsOf i 6 := by
  unfold figsTo
  rw [List.range_succ, List.flatMap_append, ← List.append_assoc]
  simp
theorem figsTo_len : ∀ i, (figsTo i).length ≤ 6 + i * 6
  | 0 => by decide
  | i + 1 => by
    rw [figsTo_more, List.length_append]
    have h1 := figsTo_len i
    have h2 := pairsOf_len i 6
    omega
theorem figs_fig : ∀ k < 36, ∃ l, (figsTo 6)[k]? = some l ∧ isFig (.tuple (l.map PyData.int)) = true := by decide +kernel
def spFgs : Sp := fun vs H Q _ => vs = [] ∧ ∀ H' D xs, Same H H' → H D = none → H' D = some (.lst xs) → TupsAt H' xs (figsTo 6) → Q (.ref D) H'
section
variable {P : Program} {w : World} {K : PySem.W.Frag} {mg : Str → Option Value} {base : Heap}
theorem sc_fgs : FnScope ["one", "found", "other"] [] (defScope sFgs) := ⟨rfl, rfl, rfl, by decide +kernel, rfl, by decide +kernel, by decide +kernel⟩
theorem ok_fgs {f : Addr} {fd : FuncData} (F : Fun K "_law_figures" "_law_figures" sFgs f fd) (T : Bi1 mg) : FnOk P w K mg base CX0 1 f fd [] spFgs := by
  refine F.ok sc_fgs (fun vs H Q E h => ?_) (fun cdv A outer s H vs Q E hr h => ?_)
  · obtain ⟨rfl, _⟩ := h
    rfl
  · obtain ⟨rfl, k⟩ := h
    refine ⟨_, (pss_cons (ps_setLc (i := 1) (own := [("one", 0)]) (g := gName 0) rfl sc_fgs.nd rfl rfl (sw_true rfl rfl rfl (by decide +kernel)) (pi_range1 (by rfl) T.range (pa_cons (pe_int) pa_nil)) (blkOk_by (N := ["one", "found", "other"]) (sc := defScope sFgs) (by decide +kernel)) (fun _ _ _ _ _ => (pg_name (i := 0) sc_fgs.nd rfl (.inl rfl))) (fun _ _ _ _ _ => pts_nil) (fun _ _ _ _ _ => (pe_tup (pa_cons (pv 0) pa_nil))))
        (pss_cons (ps_for PassesOwn.never rfl (pi_range1 (by rfl) T.range (pa_cons (pe_int) pa_nil)) (pg_name (i := 0) sc_fgs.nd rfl (.inr rfl)) (pss_one (ps_set (i := 1) sc_fgs.nd rfl (.inl rfl) (pe_op op_cat (pv 1) (pe_lc (own := [("other", 2)]) (g := gName 2) rfl sc_fgs.nd (pi_range1 (by rfl) T.range (pa_cons (pe_int) pa_nil)) (blkOk_by (N := ["one", "found", "other"]) (sc := defScope sFgs) (by decide +kernel)) (fun _ _ _ _ _ => (pg_name (i := 2) sc_fgs.nd rfl (.inl rfl))) (fun _ _ _ _ _ => (pts_one (pt_cmpR op_ne (pv 2) (pv 0) (nomark _)))) (fun _ _ _ _ _ => (pe_tup (pa_cons (pv 0) (pa_cons (pv 2) pa_nil)))))))))
        (pss_one (ps_ret (pv 1))))), ?_⟩
    refine ⟨_, rfl, by decide, by decide, fun D hD => lc_range (lo := 0) (n := 6) (fun j H' => ∃ acc, H' D = some (.lst acc) ∧ TupsAt H' acc (onesTo j) ∧ Same H H') ⟨[], upd_same, trivial, sameN hD⟩ ?_ ?_⟩
    · rintro j H1 hj ⟨ac, y1, y2, y3⟩
      refine ⟨rfl, _, rfl, by show 1 ≤ sizeLine; decide, fun p hp => ⟨ac, ?_, ?_, ac ++ [.ref p], upd_same, ?_, ?_⟩⟩
      · rw [upd_ne (ne_of_none y1 hp)]
        exact y1
      · rw [y2.len]
        unfold onesTo
        rw [List.length_map, List.length_range]
        exact Nat.lt_of_lt_of_le (show j < 1000 by omega) (by decide : 1000 ≤ sizeLine)
      · rw [onesTo_more]
        have npD : p ≠ D := fun z => by rw [z, y1] at hp; cases hp
        refine TupsAt.more ⟨p, rfl, ?_⟩ (y2.keep fun b ys e => ?_)
        · rw [upd_ne npD, upd_same, Int.zero_add]
          rfl
        · rw [upd_ne (fun z => by rw [z, y1] at e; cases e), upd_ne (ne_of_none e hp)]
          exact e
      · intro b o e
        rw [upd_ne (ne_of_none e hD), upd_ne (ne_of_none (y3 _ _ e) hp)]
        exact y3 _ _ e
    · rintro H1 ⟨ac1, x1, x2, x3⟩
      refine ⟨_, rfl, by decide, by decide, ?_⟩
      refine for_range (n := 6) (fun i σ H' => ∃ l acc v, σ = [v, some (.ref l), none] ∧ H' l = some (.lst acc) ∧ TupsAt H' acc (figsTo i) ∧ Same H H' ∧ H l = none) ⟨D, ac1, none, rfl, x1, x2, x3, hD⟩ ?_ ?_
      · rintro i σ H1 hi ⟨l, acc, v, rfl, h1, h2, s1, hl0⟩
        refine ⟨_, rfl, _, rfl, by decide, by decide, fun D2 hD2 => ?_⟩
        have nlD : l ≠ D2 := ne_of_none h1 hD2
        refine lc_range (lo := 0) (n := 6) (fun j H3 => ∃ ac, H3 D2 = some (.lst ac) ∧ TupsAt H3 ac (pairsOf i j) ∧ Same H1 H3) ⟨[], upd_same, trivial, sameN hD2⟩ ?_ ?_
        · rintro j H3 hj ⟨ac, y1, y2, y3⟩
          refine ⟨rfl, _, rfl, _, rfl, rfl, _, rfl, ?_⟩
          by_cases hji : j = i
          · subst hji
            refine iteNb (by simp) ⟨ac, y1, ?_, y3⟩
            rw [pairsOf_same]
            exact y2
          · have n1 : ¬ (j : Int) = (i : Int) := by omega
            refine iteYb (by simp [n1]) ⟨_, rfl, _, rfl, by show 2 ≤ sizeLine; decide, fun p hp => ⟨ac, ?_, ?_, ac ++ [.ref p], upd_same, ?_, ?_⟩⟩
            · rw [upd_ne (ne_of_none y1 hp)]
              exact y1
            · rw [y2.len]
              have l1 := pairsOf_len i j
              exact Nat.lt_of_lt_of_le (show (pairsOf i j).length < 1000 by omega) (by decide : 1000 ≤ sizeLine)
            · rw [pairsOf_more hji]
              have npD : p ≠ D2 := fun z => by rw [z, y1] at hp; cases hp
              refine TupsAt.more ⟨p, rfl, ?_⟩ (y2.keep fun b ys e => ?_)
              · rw [upd_ne npD, upd_same, Int.zero_add, Int.zero_add]
                rfl
              · rw [upd_ne (fun z => by rw [z, y1] at e; cases e), upd_ne (ne_of_none e hp)]
                exact e
            · intro b o e
              rw [upd_ne (ne_of_none e hD2), upd_ne (ne_of_none (y3 _ _ e) hp)]
              exact y3 _ _ e
        · rintro H3 ⟨ac, y1, y2, y3⟩
          refine ⟨l, D2, acc, ac, rfl, rfl, y3 _ _ h1, y1, ?_, fun p hp => ?_⟩
          · rw [h2.len, y2.len]
            have l1 := figsTo_len i
            have l2 := pairsOf_len i 6
            exact Nat.le_trans (show (figsTo i).length + (pairsOf i 6).length ≤ 1000 by omega) (by decide : 1000 ≤ sizeLine)
          · have s4 : Same H3 (upd H3 p (.lst (acc ++ ac))) := sameN hp
            refine ⟨p, acc ++ ac, _, rfl, upd_same, ?_, (s1.trans y3).trans s4, ?_⟩
            · rw [figsTo_more]
              exact (h2.same (y3.trans s4)).app (y2.same s4)
            · cases z : H p with
              | none => rfl
              | some o =>
                have z2 := (s1.trans y3) _ _ z
                rw [hp] at z2
                cases z2
      · rintro σ H1 ⟨l, acc, v, rfl, h1, h2, s1, hl0⟩
        exact ⟨_, rfl, k H1 l acc s1 hl0 h1 h2⟩
end
end Own
/-! The law's question of a hash and a width. -/
namespace Own
open PySem PySem.Spec PyProof.Rows L2
abbrev sBr : Stmt := top1 34
/-- a def of the top, its code object too -/
structure FunC (K : PySem.W.Frag) (x : Str) (st : Stmt) (f : Addr) (fd : FuncData) (c : Addr) : Prop where
  ex : ∃ (oc : Value) (od : Option Addr) (kV doc pm : Value) (an : Option Addr) (ct : Value) (osl : Array (Option Value)),
    fd = PySem.W.fnOf x x (defArgs st) (defBody st) (defScope st) .none kV doc pm an (.ref c) ct ∧ K.lookup f = some ⟨oc, od, .func fd, osl⟩ ∧ PySem.W.codeIn K (.ref c) x = true
  kp : PySem.W.keepIn K (.ref f) = true
section
variable {CX : CXT} {P : Program} {w : World} {K : PySem.W.Frag} {mg : Str → Option Value} {base : Heap} {k : Nat} {f c : Addr}
theorem FunC.gok {x : Str} {st : Stmt} {fd : FuncData} {N ps : List Str} {sp : Sp} (F : FunC K x st f fd c) (S : FnScope N ps (defScope st)) (len : ∀ vs H Q E, sp vs H Q E → vs.length = ps.length)
    (hb : ∀ (A : Around) (outer : List Env) (s : Shared) (H : Hp) (vs : List V) (Q : VK) (E : XK), A.guards = some [] → Room k (A.deeper (envOfC x (defScope st) s.heap.objs.size f (.ref c))) → sp vs H Q E →
      ∃ t, PSs (cxOf CX0 P w K mg base N x (defScope st) f (.ref c) A outer s H E).nox (defBody st) t ∧ t { nx := fun _ H' => Q .non H', rt := Q } (L2.start N vs) H) : GFn P w K mg base CX0 (k + 1) f fd ps sp := by
  obtain ⟨oc, od, kV, doc, pm, an, ct, osl, rfl, lk, hcd⟩ := F.ex
  refine ⟨len, fun A outer s H args us vs Q E hg hr e0 hbd r hsp => ?_⟩
  exact LamX.run_ofS (CX := CX0) lk hcd S hr e0 hbd r (len _ _ _ _ hsp) fun hr2 => by
    obtain ⟨t, ht, hq⟩ := hb A outer s H vs Q E hg hr2 hsp
    exact ⟨t, ht.nox, hq⟩
end
mutual
theorem Dv.extN {K : PySem.W.Frag} {H H' : Hp} (s : LamX.ExtN H H') : ∀ {v : V} {d : PyData}, Dv K H v d → Dv K H' v d
  | _, _, .non => .non
  | _, _, .bl b => .bl b
  | _, _, .int i => .int i
  | _, _, .str x => .str x
  | _, _, .lst h r => .lst (by
      rcases h with (h | ⟨o, h⟩) | h
      · exact .inl (.inl (s _ _ h fun ps z => nomatch z))
      · exact .inl (.inr ⟨o, s _ _ h fun ps z => nomatch z⟩)
      · exact .inr h) (DvAll.extN s r)
  | _, _, .tup h r => .tup (by
      rcases h with (h | ⟨o, h⟩) | h
      · exact .inl (.inl (s _ _ h fun ps z => nomatch z))
      · exact .inl (.inr ⟨o, s _ _ h fun ps z => nomatch z⟩)
      · exact .inr h) (DvAll.extN s r)
  | _, _, .dct h r => .dct (s _ _ h fun ps z => nomatch z) (DvAll.extN s r)
theorem DvAll.extN {K : PySem.W.Frag} {H H' : Hp} (s : LamX.ExtN H H') : ∀ {vs : List V} {ds : List PyData}, DvAll K H vs ds → DvAll K H' vs ds
  | _, _, .nil => .nil
  | _, _, .cons h r => .cons (Dv.extN s h) (DvAll.extN s r)
end
theorem extN_same {H H' : Hp} (s : Same H H') : LamX.ExtN H H' := fun b o e _ => s b o e
/-- small data is shown -/
theorem shown_bl (b : Bool) : okD (.bool b) = true ∧ (PyData.shown (.bool b)).length ≤ sizeLine ∧ (PyData.bool b).depth ≤ 40 := ⟨rfl, by cases b <;> exact Nat.le_trans (by decide : _ ≤ 5) (by decide : 5 ≤ sizeLine), by simp [PyData.depth]⟩
theorem shown_small {i : Int} (h0 : 0 ≤ i) (h9 : i < 10 ^ 9) : okD (.int i) = true ∧ (PyData.shown (.int i)).length ≤ sizeLine ∧ (PyData.int i).depth ≤ 40 := by
  refine ⟨?_, ?_, by simp [PyData.depth]⟩
  · show decide (i.natAbs.log2 < 1920) = true
    rw [decide_eq_true_iff]
    by_cases y : i.natAbs = 0
    · rw [y]; decide
    · exact Nat.lt_of_lt_of_le ((Nat.log2_lt y).mpr (Nat.lt_of_lt_of_le (show i.natAbs < 10 ^ 9 by omega) (by decide : 10 ^ 9 ≤ 2 ^ 30))) (by decide)
  · have z := toString_length_le h0 (k := 9) (by decide) h9
    have e : PyData.shown (.int i) = Str.ofString (toString i) := by simp only [PyData.shown]
    rw [e]
    exact Nat.le_trans z (by decide)
/-- the code object of the word's def, where it stands -/
structure WdAt (K : PySem.W.Frag) (mg : Str → Option Value) : Prop where
  ex : ∃ (g : Addr) (oc : Value) (od : Option Addr) (kV doc pm : Value) (an : Option Addr) (cdv ct : Value) (osl : Array (Option Value)),
    mg "_law_word" = some (.ref g) ∧ PySem.W.keepIn K (.ref g) = true ∧ K.lookup g = some ⟨oc, od, .func (PySem.W.fnOf "_law_word" "_law_word" (defArgs sWrd) (defBody sWrd) (defScope sWrd) .none kV doc pm an cdv ct), osl⟩ ∧ PySem.W.codeIn K cdv "_law_word" = true ∧
    Binds K (PySem.W.fnOf "_law_word" "_law_word" (defArgs sWrd) (defBody sWrd) (defScope sWrd) .none kV doc pm an cdv ct) ["act"] []
def spBr (K : PySem.W.Frag) (TT : List (Addr × Str)) : Sp := fun vs H Q _ => ∃ (v u : V) (d e : PyData), vs = [v, u] ∧ Dv K H v d ∧ Dv K H u e ∧ LamX.Tabs TT H ∧ ∀ H', LamX.ExtN H H' → LamX.Tabs TT H' → Q (.bl true) H'
section
variable {P : Program} {w : World} {K : PySem.W.Frag} {mg : Str → Option Value} {base : Heap}
theorem sc_br : FnScope ["code", "wide", "due"] ["code", "wide"] (defScope sBr) := ⟨rfl, rfl, rfl, by decide +kernel, rfl, by decide +kernel, by decide +kernel⟩
theorem ok_br {f c TP cE : Addr} {cs : Nat → Addr} {TT : List (Addr × Str)} {fd : FuncData} (F : FunC K "_law_bits_right" sBr f fd c) (T : Bi1 mg) (TW : TWd K mg cs cE) (WD : WdAt K mg) (TB : LamX.TabB base mg c TP)
    (hmT : (TP, ("_law_bits_right" : Str) ++ ".<locals>." ++ "<lambda>") ∈ TT) (huT : ∀ p ∈ TT, p.1 = TP → p.2 = ("_law_bits_right" : Str) ++ ".<locals>." ++ "<lambda>")
    (CW : CalWid P w K mg base) (CH : CalHsh P w K mg base) (CL : CalBel P w K mg base) (CP : CalPow P w K mg base) (CB : CalBuc P w K mg base (cs 0) (cs 1)) :
    GFn P w K mg base CX0 8 f fd ["code", "wide"] (spBr K TT) := by
  obtain ⟨fW, fdW, GW, gW, kW, bW⟩ := CW
  obtain ⟨fH, fdH, GH, gH, kH, bH⟩ := CH
  obtain ⟨fL, fdL, GL, gL, kL, bL⟩ := CL
  obtain ⟨fP, fdP, GP, gP, kP, bP⟩ := CP
  obtain ⟨fB, fdB, GB, gB, kB, bB⟩ := CB
  obtain ⟨gw, oc, od, kV, doc, pm, an, cdw, ct, osl, gWd, kWd, lkWd, hcWd, bWd⟩ := WD
  refine F.gok sc_br (fun vs H Q E h => ?_) (fun A outer s H vs Q E hg hr h => ?_)
  · obtain ⟨v, u, d, e, rfl, _⟩ := h
    rfl
  · obtain ⟨v, u, d, e, rfl, hd, he, tb, k⟩ := h
    have hg2 : (cxOf CX0 P w K mg base ["code", "wide", "due"] "_law_bits_right" (defScope sBr) f (.ref c) A outer s H E).nox.A.guards = some [] := hg
    have hu2 : (cxOf CX0 P w K mg base ["code", "wide", "due"] "_law_bits_right" (defScope sBr) f (.ref c) A outer s H E).nox.A.units + 64 < cLine := by
      have z := hr.units
      exact Nat.lt_of_le_of_lt (Nat.add_le_add_left (by decide) _) z
    have hrL : Room 7 _ := hr
    have hrW : Room 3 _ := hr.mono (by decide)
    have hrL1 : Room 1 _ := hr.mono (by decide)
    refine ⟨_, (pss_cons (ps_if (PW.pt (pw_or (pt_cmpR op_ne (pe_callB (call_repr hg2 hu2) (by rfl) T.repr (by decide +kernel) (pa_cons (pe_call GW hrW (by rfl) gW kW bW .nil pass0 (pa_cons (pv 1) pa_nil)) pa_nil)) (pe_callB (call_repr hg2 hu2) (by rfl) T.repr (by decide +kernel) (pa_cons (pe_call GL hrL1 (by rfl) gL kL bL .nil pass0 (pa_cons (pv 1) (pa_cons (pe_int) pa_nil))) pa_nil)) (nomark _)) (pw_or1 (pt_cmpR op_ne (pe_callB (call_repr hg2 hu2) (by rfl) T.repr (by decide +kernel) (pa_cons (pe_call GH hrW (by rfl) gH kH bH .nil pass0 (pa_cons (pv 0) pa_nil)) pa_nil)) (pe_callB (call_repr hg2 hu2) (by rfl) T.repr (by decide +kernel) (pa_cons (pe_call GL hrL1 (by rfl) gL kL bL .nil pass0 (pa_cons (pv 0) (pa_cons (pe_int) pa_nil))) pa_nil)) (nomark _))))) (pss_one (ps_ret (pe_bl))) pss_nil)
        (pss_cons (ps_set (i := 2) sc_br.nd rfl (.inl rfl) (pe_str))
        (pss_cons (ps_if (pt_val (pe_call GL hrL1 (by rfl) gL kL bL .nil pass0 (pa_cons (pv 1) (pa_cons (pe_int) pa_nil)))) (pss_one (ps_set (i := 2) sc_br.nd rfl (.inl rfl) (pe_ifExp (pt_val (pe_call GL hrL1 (by rfl) gL kL bL .nil pass0 (pa_cons (pv 0) (pa_cons (pe_int) pa_nil)))) (pe_callB (call_repr hg2 hu2) (by rfl) T.repr (by decide +kernel) (pa_cons (pe_op op_modN (pe_callTy call_int1 (by rfl) T.int (by decide +kernel) (pa_cons (pv 0) pa_nil)) (pe_call GP hrL1 (by rfl) gP kP bP .nil pass0 (pa_cons (pv 1) pa_nil))) pa_nil)) (pe_str)))) pss_nil)
        (pss_one (ps_ret (pe_cmpR op_eq (LamX.pe_lamcall (T := TT) (k := 5) (by rfl) gWd kWd lkWd hcWd bWd sc_wrd rfl (.inl rfl) (wrd_gives hg2 hrL TW) TB rfl hmT huT hrL (LamX.lamS_by (sc := defScope sBr) (by decide +kernel)) rfl (fun _ _ _ _ _ => rfl) (fun A outer s H E f c1 hr4 => pe_call GB hr4 (by rfl) gB kB bB .nil (passes_call (takes_of rfl rfl rfl rfl) fun _ _ _ _ h => h) (pa_cons (pv 0) (pa_cons (pv 1) pa_nil)))) (pv 2) (nomark _))))))), ?_⟩
    have fin : ∀ H1, LamX.ExtN H H1 → LamX.Tabs TT H1 → ∀ H2, Same H1 H2 → ∀ x : Str, Q (.bl (decide (V.str x = V.str x))) H2 := fun H1 x1 t1 H2 s2 x => by
      have z := k H2 (x1.trans (extN_same s2)) (t1.ext s2)
      simpa using z
    have eqs : ∀ x : V, (!decide (x = x)) = false := fun x => by simp
    refine ⟨_, rfl, u, e, rfl, he, .bl _, .bool _, rfl, .bl _, (shown_bl _).1, (shown_bl _).2.1, (shown_bl _).2.2, _, rfl, u, e, 6, rfl, he, .bl _, .bool _, rfl, .bl _, (shown_bl _).1, (shown_bl _).2.1, (shown_bl _).2.2, rfl, _, rfl, iteNb (eqs _) ?_⟩
    refine ⟨_, rfl, v, d, rfl, hd, .bl _, .bool _, rfl, .bl _, (shown_bl _).1, (shown_bl _).2.1, (shown_bl _).2.2, _, rfl, v, d, 32, rfl, hd, .bl _, .bool _, rfl, .bl _, (shown_bl _).1, (shown_bl _).2.1, (shown_bl _).2.2, rfl, _, rfl, iteNb (eqs _) ?_⟩
    refine ⟨_, rfl, u, e, 6, rfl, he, _, rfl, ?_⟩
    cases qe : numIn 0 5 e with
    | false =>
      refine iteNb qe ⟨tb, fun H1 x1 t1 => ?_⟩
      intro H0 s0 E1 Q1 he1 hq1
      refine ⟨_, rfl, _, rfl, v, u, d, e, rfl, (hd.extN x1).same s0, (he.extN x1).same s0, fun _ => he1 0 H0 (by decide) fun H2 s2 => ?_, fun z => ?_, fun c m e1 e2 c0 c9 m0 m5 => ?_⟩
      · exact ⟨_, rfl, rfl, fin H1 x1 t1 H2 (s0.trans s2) _⟩
      · rw [qe] at z
        cases z
      · subst e2
        have z : (decide (0 ≤ m) && decide (m ≤ 5)) = false := qe
        rw [decide_eq_true m0, decide_eq_true m5] at z
        cases z
    | true =>
      refine iteYb qe ⟨_, rfl, v, d, 32, rfl, hd, _, rfl, ?_⟩
      cases qd : numIn 0 31 d with
      | false =>
        refine iteNb qd ⟨tb, fun H1 x1 t1 => ?_⟩
        intro H0 s0 E1 Q1 he1 hq1
        refine ⟨_, rfl, _, rfl, v, u, d, e, rfl, (hd.extN x1).same s0, (he.extN x1).same s0, fun z => ?_, fun _ _ => he1 1 H0 (by decide) fun H2 s2 => ?_, fun c m e1 e2 c0 c9 m0 m5 => ?_⟩
        · rw [qe] at z
          cases z
        · exact ⟨_, rfl, rfl, fin H1 x1 t1 H2 (s0.trans s2) _⟩
        · subst e1
          have z : (decide (0 ≤ c) && decide (c ≤ 31)) = false := qd
          rw [decide_eq_true c0, decide_eq_true c9] at z
          cases z
      | true =>
        obtain ⟨m, rfl, m0, m5⟩ := numIn_some qe
        obtain ⟨c, rfl, c0, c9⟩ := numIn_some qd
        obtain rfl := hd.int_inv
        obtain rfl := he.int_inv
        have p : (0 : Int) < 2 ^ m.toNat := Int.pow_pos (by decide)
        have r0 : 0 ≤ c % 2 ^ m.toNat := Int.emod_nonneg _ (by omega)
        have p9 : (2 : Int) ^ m.toNat ≤ 32 := by
          rcases (show m = 0 ∨ m = 1 ∨ m = 2 ∨ m = 3 ∨ m = 4 ∨ m = 5 by omega) with rfl | rfl | rfl | rfl | rfl | rfl <;> decide
        have r9 : c % 2 ^ m.toNat < 10 ^ 9 := by
          have z := Int.emod_lt_of_pos c p
          omega
        have ef : c.fmod (2 ^ m.toNat) = c % 2 ^ m.toNat := Int.fmod_eq_emod_of_nonneg _ (Int.le_of_lt p)
        rw [← ef] at r0 r9
        obtain ⟨sh1, sh2, sh3⟩ := shown_small r0 r9
        refine iteYb qd ⟨_, rfl, .inl ⟨c, rfl, _, rfl, m, rfl, m0, m5, fun H3 s3 => ⟨_, _, rfl, rfl, by omega, ?_⟩⟩⟩
        refine ⟨_, .int (c.fmod (2 ^ m.toNat)), rfl, .int _, sh1, sh2, sh3, tb.ext s3, fun H1 x1 t1 => ?_⟩
        intro H0 s0 E1 Q1 he1 hq1
        refine ⟨_, rfl, _, rfl, .int c, .int m, .int c, .int m, rfl, .int c, .int m, fun z => ?_, fun _ z => ?_, fun c' m' e1 e2 _ _ _ _ => ?_⟩
        · rw [qe] at z
          cases z
        · rw [qd] at z
          cases z
        · cases e1
          cases e2
          refine hq1 _ (.int (c.fmod (2 ^ m.toNat))) H0 (by rw [ef]; exact .int _) sh1 sh2 sh3 fun H2 s2 => ?_
          exact ⟨_, rfl, rfl, fin H1 ((extN_same s3).trans x1) t1 H2 (s0.trans s2) _⟩
end
end Own
/-! Two pairs of ints that are shown alike are the same. -/
namespace Own
open PySem PySem.Spec PyProof.Rows
theorem cps_inj : ∀ {a b : List Char}, a.map Char.toNat = b.map Char.toNat → a = b
  | [], [], _ => rfl
  | [], _ :: _, h => by cases h
  | _ :: _, [], h => by cases h
  | x :: a, y :: b, h => by
    rw [List.map_cons, List.map_cons] at h
    injection h with h1 h2
    rw [cps_inj h2, Char.toNat_inj.mp h1]
theorem text_inj {a b : String} (h : (Str.ofString a).cps.toList = (Str.ofString b).cps.toList) : a = b := by
  rw [Str.ofString_eq_toList, Str.ofString_eq_toList] at h
  exact String.toList_inj.mp (cps_inj (by simpa using h))
theorem num_inj {i j : Int} (h : (Str.ofString (toString i)).cps.toList = (Str.ofString (toString j)).cps.toList) : i = j := Int.repr_injective (text_inj h)
theorem split_at {c : Nat} : ∀ {a b x y : List Nat}, c ∉ a → c ∉ b → a ++ c :: x = b ++ c :: y → a = b ∧ x = y
  | [], [], _, _, _, _, h => by
    injection h with _ h2
    exact ⟨rfl, h2⟩
  | [], v :: _, _, _, _, hb, h => by
    injection h with h1 _
    exact absurd (by rw [h1]; exact List.mem_cons_self) hb
  | u :: _, [], _, _, ha, _, h => by
    injection h with h1 _
    exact absurd (by rw [← h1]; exact List.mem_cons_self) ha
  | u :: a, v :: b, _, _, ha, hb, h => by
    injection h with h1 h2
    obtain ⟨e1, e2⟩ := split_at (fun z => ha (List.mem_cons_of_mem _ z)) (fun z => hb (List.mem_cons_of_mem _ z)) h2
    exact ⟨by rw [h1, e1], e2⟩
theorem pair_cps (t k : Int) : (PyData.tuple [.int t, .int k]).shown.cps.toList = 40 :: ((Str.ofString (toString t)).cps.toList ++ 44 :: 32 :: ((Str.ofString (toString k)).cps.toList ++ [41])) := by
  have app : ∀ a b : Str, (a ++ b).cps.toList = a.cps.toList ++ b.cps.toList := fun a b => Array.toList_append
  rw [PyData.shown_tuple]
  simp only [PyData.shownAll_cons, PyData.shownAll_nil, PyData.shown_int]
  show ((("(" : Str) ++ (Str.ofString (toString t) ++ ", " ++ Str.ofString (toString k))) ++ Str.ofString ")").cps.toList = _
  rw [app, app, app, app]
  have e1 : (Str.ofString "(").cps.toList = [40] := by decide +kernel
  have e2 : (Str.ofString ", ").cps.toList = [44, 32] := by decide +kernel
  have e3 : (Str.ofString ")").cps.toList = [41] := by decide +kernel
  rw [e1, e2, e3]
  simp
theorem pair_inj {t k t' k' : Int} (h : (PyData.tuple [.int t, .int k]).shown = (PyData.tuple [.int t', .int k']).shown) : t = t' ∧ k = k' := by
  have z := congrArg (fun x : Str => x.cps.toList) h
  simp only [pair_cps] at z
  injection z with _ z
  obtain ⟨e1, e2⟩ := split_at (fun q => (intText_free_44 t).mp q) (fun q => (intText_free_44 t').mp q) z
  injection e2 with _ e2
  exact ⟨num_inj e1, num_inj (List.append_cancel_right e2)⟩
end Own
/-! What is shown of a shape's places; which places a shape has. -/
namespace Own
open PySem PySem.Spec PyProof.Rows L2
/-- a shape is one of the 36 -/
theorem fig_ints {d : PyData} (h : isFig d = true) : ∃ l : List Int, d = .tuple (l.map PyData.int) ∧ ((∃ a, l = [a] ∧ 0 ≤ a ∧ a ≤ 5) ∨ ∃ a b, l = [a, b] ∧ 0 ≤ a ∧ a ≤ 5 ∧ 0 ≤ b ∧ b ≤ 5) := by
  match d, h with
  | .tuple [a], h =>
    rw [fig_one] at h
    obtain ⟨i, rfl, h0, h5⟩ := numIn_some h
    exact ⟨[i], rfl, .inl ⟨i, rfl, h0, h5⟩⟩
  | .tuple [a, b], h =>
    rw [fig_two, Bool.and_eq_true, Bool.and_eq_true] at h
    obtain ⟨i, rfl, h0, h5⟩ := numIn_some h.1.1
    obtain ⟨j, rfl, g0, g5⟩ := numIn_some h.1.2
    exact ⟨[i, j], rfl, .inr ⟨i, j, rfl, h0, h5, g0, g5⟩⟩
/-- pairs of small numbers are shown -/
theorem ok_pairs : ∀ r : List (Int × Int), (∀ p ∈ r, 0 ≤ p.1 ∧ p.1 < 1000 ∧ 0 ≤ p.2 ∧ p.2 < 1000) →
    okAll (r.map fun k => .tuple [.int k.1, .int k.2]) = true ∧ PyData.depthAll (r.map fun k => PyData.tuple [.int k.1, .int k.2]) ≤ 1 ∧ PyData.leavesShortAll 13 (r.map fun k => PyData.tuple [.int k.1, .int k.2]) = true ∧ PyData.bulkAll (r.map fun k => PyData.tuple [.int k.1, .int k.2]) = 3 * r.length
  | [], _ => ⟨rfl, by simp [PyData.depthAll], rfl, rfl⟩
  | p :: r, h => by
    obtain ⟨h1, h2, h3, h4⟩ := ok_pairs r fun q hq => h q (List.mem_cons_of_mem _ hq)
    obtain ⟨a0, a9, b0, b9⟩ := h p List.mem_cons_self
    have oa := (shown_small a0 (by omega)).1
    have ob := (shown_small b0 (by omega)).1
    have la := PyData.shown_int_le2 (i := p.1) (by omega) (by omega)
    have lb := PyData.shown_int_le2 (i := p.2) (by omega) (by omega)
    rw [List.map_cons]
    refine ⟨?_, ?_, ?_, ?_⟩
    · simp only [okAll, okD, Bool.and_true, Bool.and_eq_true] at *
      exact ⟨⟨oa, ob⟩, h1⟩
    · simp only [PyData.depthAll, PyData.depth]
      omega
    · simp only [PyData.leavesShortAll, PyData.leavesShort, Bool.and_true, Bool.and_eq_true, decide_eq_true_eq]
      exact ⟨⟨la, lb⟩, h3⟩
    · simp only [PyData.bulkAll, PyData.bulk, List.length_cons]
      rw [h4]
      omega
theorem mem_row {t j : Nat} {x y : Int} : (x, y) ∈ rowOf t j ↔ x = (t : Int) ∧ ∃ k : Nat, k < j ∧ y = (k : Int) := by
  unfold rowOf
  simp only [List.mem_map, List.mem_range, Prod.mk.injEq]
  constructor
  · rintro ⟨k, hk, e1, e2⟩
    exact ⟨e1.symm, k, hk, e2.symm⟩
  · rintro ⟨e1, k, hk, e2⟩
    exact ⟨k, hk, e1.symm, e2.symm⟩
theorem mem_spots {ws : List PyData} {i : Nat} {x y : Int} : (x, y) ∈ spotsTo ws i ↔ ∃ t : Nat, t < i ∧ x = (t : Int) ∧ ∃ k : Nat, k < manyOf ws t ∧ y = (k : Int) := by
  unfold spotsTo
  simp only [List.mem_flatMap, List.mem_range, mem_row]
theorem ok_spots {ws : List PyData} (h : isFig (.tuple ws) = true) : okD (.list (spotsD ws)) = true ∧ (PyData.list (spotsD ws)).shown.length ≤ sizeLine ∧ (PyData.list (spotsD ws)).depth ≤ 40 := by
  obtain ⟨ws', e, hl, hw⟩ := fig_tup h
  cases e
  have small : ∀ p ∈ spotsTo ws ws.length, 0 ≤ p.1 ∧ p.1 < 1000 ∧ 0 ≤ p.2 ∧ p.2 < 1000 := by
    rintro ⟨x, y⟩ hp
    obtain ⟨t, ht, rfl, k, hk, rfl⟩ := mem_spots.mp hp
    have z := many_le hw t
    show 0 ≤ (t : Int) ∧ (t : Int) < 1000 ∧ 0 ≤ (k : Int) ∧ (k : Int) < 1000
    omega
  obtain ⟨h1, h2, h3, h4⟩ := ok_pairs _ small
  have l := spotsTo_len (ws := ws) (many_le hw) ws.length
  refine ⟨?_, ?_, ?_⟩
  · simp only [okD]
    exact h1
  · refine PyData.shown_fits_bulk (B := 13) (by decide) (by decide) ?_ ?_
    · simp only [PyData.leavesShort]
      exact h3
    · simp only [PyData.bulk]
      show PyData.bulkAll (spotsD ws) ≤ _
      unfold spotsD
      rw [h4]
      omega
  · simp only [PyData.depth]
    have h2' : PyData.depthAll (spotsD ws) ≤ 1 := h2
    omega
/-- a pair is a place exactly if it stands in the list -/
theorem isSpot_iff {ws : List PyData} {x y : Int} : isSpot (.tuple ws) (.tuple [.int x, .int y]) = true ↔ (x, y) ∈ spotsTo ws ws.length := by
  rw [mem_spots]
  show ((decide (0 ≤ x) && decide (x ≤ (ws.length : Int) - 1)) && (decide (0 ≤ y) && decide (y ≤ 2 ^ (intOf (ws.getD x.toNat .none)).toNat - 1))) = true ↔ _
  simp only [Bool.and_eq_true, decide_eq_true_iff]
  have cast : ∀ t : Nat, (2 : Int) ^ (intOf (ws.getD t .none)).toNat = ((manyOf ws t : Nat) : Int) := fun t => by
    unfold manyOf
    rw [Int.natCast_pow]
    rfl
  constructor
  · rintro ⟨⟨x0, x9⟩, y0, y9⟩
    rw [cast] at y9
    exact ⟨x.toNat, by omega, by omega, y.toNat, by omega, by omega⟩
  · rintro ⟨t, ht, rfl, k, hk, rfl⟩
    rw [Int.toNat_natCast, cast]
    omega
end Own
/-! A spot's text among those of a shape's places. -/
namespace Own
open PySem PySem.Spec PyProof.Rows L2
/-- data that is shown as a pair of ints only if it is that pair -/
def SpotD (e : PyData) : Prop := ∀ t k : Int, e.shown = (PyData.tuple [.int t, .int k]).shown → e = .tuple [.int t, .int k]
theorem spotD_pair (t k : Int) : SpotD (.tuple [.int t, .int k]) := fun t' k' h => by
  obtain ⟨e1, e2⟩ := pair_inj h
  rw [e1, e2]
def OkR (d : PyData) : Prop := okD d = true ∧ d.shown.length ≤ sizeLine ∧ d.depth ≤ 40
theorem ok_pair {x y : Int} (x0 : 0 ≤ x) (x9 : x < 1000) (y0 : 0 ≤ y) (y9 : y < 1000) : OkR (.tuple [.int x, .int y]) := by
  have ox := (shown_small x0 (by omega)).1
  have oyy := (shown_small y0 (by omega)).1
  have lx := PyData.shown_int_le2 (i := x) (by omega) (by omega)
  have ly := PyData.shown_int_le2 (i := y) (by omega) (by omega)
  refine ⟨?_, ?_, ?_⟩
  · simp only [okD, okAll, Bool.and_true, Bool.and_eq_true] at *
    exact ⟨ox, oyy⟩
  · refine PyData.shown_fits_bulk (B := 13) (by decide) (by decide) ?_ ?_
    · simp only [PyData.leavesShort, PyData.leavesShortAll, Bool.and_true, Bool.and_eq_true, decide_eq_true_eq]
      exact ⟨lx, ly⟩
    · simp only [PyData.bulk, PyData.bulkAll]
      decide
  · simp [PyData.depth, PyData.depthAll]
def showV (d : PyData) : V := .str d.shown
theorem isSpot_pair {ws : List PyData} {y : PyData} (h : isSpot (.tuple ws) y = true) : ∃ a b : Int, y = .tuple [.int a, .int b] := by
  match y, h with
  | .tuple [t, n], h =>
    have h' : (numIn 0 ((ws.length : Int) - 1) t && numIn 0 (2 ^ (intOf (ws.getD (intOf t).toNat .none)).toNat - 1) n) = true := h
    rw [Bool.and_eq_true] at h'
    obtain ⟨a, rfl, _, _⟩ := numIn_some h'.1
    obtain ⟨b, rfl, _, _⟩ := numIn_some h'.2
    exact ⟨a, b, rfl⟩
theorem spot_in {ws : List PyData} {y : PyData} (sy : SpotD y) : inV (.str y.shown) ((spotsD ws).map showV) = isSpot (.tuple ws) y := by
  cases q : isSpot (.tuple ws) y with
  | true =>
    obtain ⟨a, b, rfl⟩ := isSpot_pair q
    have hm := isSpot_iff.mp q
    refine List.any_eq_true.mpr ⟨showV (.tuple [.int a, .int b]), List.mem_map.mpr ⟨_, List.mem_map.mpr ⟨(a, b), hm, rfl⟩, rfl⟩, ?_⟩
    show ((PyData.tuple [.int a, .int b]).shown == (PyData.tuple [.int a, .int b]).shown) = true
    exact beq_self_eq_true _
  | false =>
    refine Bool.eq_false_iff.mpr fun z => ?_
    obtain ⟨x, hx, e⟩ := List.any_eq_true.mp z
    obtain ⟨d, hd, rfl⟩ := List.mem_map.mp hx
    obtain ⟨⟨a, b⟩, hm, rfl⟩ := List.mem_map.mp hd
    have e' : ((PyData.tuple [.int a, .int b]).shown == y.shown) = true := e
    have ey := sy a b (beq_iff_eq.mp e').symm
    rw [ey, isSpot_iff.mpr hm] at q
    cases q
end Own
/-! The law's question of a shape. -/
namespace Own
open PySem PySem.Spec PyProof.Rows L2
abbrev sSr : Stmt := top1 33
theorem sqT_extN {K : PySem.W.Frag} {H H' : Hp} {a : Addr} {xs : List V} (s : LamX.ExtN H H') (h : SqT K H a xs) : SqT K H' a xs := by
  rcases h with (h | ⟨o, h⟩) | h
  · exact .inl (.inl (s _ _ h fun ps z => nomatch z))
  · exact .inl (.inr ⟨o, s _ _ h fun ps z => nomatch z⟩)
  · exact .inr h
def spSr (K : PySem.W.Frag) (TT : List (Addr × Str)) : Sp := fun vs H Q _ => ∃ (v u m z : V) (d e g y : PyData), vs = [v, u, m, z] ∧ Dv K H v d ∧ Dv K H u e ∧ Dv K H m g ∧ Dv K H z y ∧ SpotD y ∧ OkR y ∧ LamX.Tabs TT H ∧ ∀ H', LamX.ExtN H H' → LamX.Tabs TT H' → Q (.bl true) H'
section
variable {P : Program} {w : World} {K : PySem.W.Frag} {mg : Str → Option Value} {base : Heap}
abbrev CalPlc (P : Program) (w : World) (K : PySem.W.Frag) (mg : Str → Option Value) (base : Heap) (cS : Addr) : Prop := Cal P w K mg base (L2.CX P w) 6 "places" ["shape"] (spPlc K cS)
abbrev CalIsp (P : Program) (w : World) (K : PySem.W.Frag) (mg : Str → Option Value) (base : Heap) (cS : Addr) : Prop := Cal P w K mg base (L2.CX P w) 6 "is_place" ["shape", "thing"] (spIsp K cS)
abbrev CalPof (P : Program) (w : World) (K : PySem.W.Frag) (mg : Str → Option Value) (base : Heap) (cS cH cM : Addr) : Prop := Cal P w K mg base (L2.CX P w) 6 "place_of" ["shape", "code", "moved"] (spPof K cS cH cM)
abbrev CalSpo (P : Program) (w : World) (K : PySem.W.Frag) (mg : Str → Option Value) (base : Heap) : Prop := Cal P w K mg base CX0 2 "_law_spots" ["figure"] (spSpo K)
theorem sc_sr : FnScope ["figure", "code", "gone", "spot", "is_figure", "due", "again", "one"] ["figure", "code", "gone", "spot"] (defScope sSr) := ⟨rfl, rfl, rfl, by decide +kernel, rfl, by decide +kernel, by decide +kernel⟩
theorem ok_sr {f c TP cE : Addr} {cs : Nat → Addr} {TT : List (Addr × Str)} {fd : FuncData} (F : FunC K "_law_shape_right" sSr f fd c) (T : Bi1 mg) (TW : TWd K mg cs cE) (WD : WdAt K mg) (TB : LamX.TabB base mg c TP)
    (hmT : (TP, ("_law_shape_right" : Str) ++ ".<locals>." ++ "<lambda>") ∈ TT) (huT : ∀ p ∈ TT, p.1 = TP → p.2 = ("_law_shape_right" : Str) ++ ".<locals>." ++ "<lambda>")
    (CF : CalFig P w K mg base) (CS : CalShp P w K mg base) (CO : CalSpo P w K mg base) (CL : CalBel P w K mg base) (CP : CalPow P w K mg base) (CA : CalPlc P w K mg base (cs 2)) (CI : CalIsp P w K mg base (cs 2)) (CQ : CalPof P w K mg base (cs 2) (cs 1) (cs 3)) :
    GFn P w K mg base CX0 9 f fd ["figure", "code", "gone", "spot"] (spSr K TT) := by
  obtain ⟨fF, fdF, GF, gF, kF, bF⟩ := CF
  obtain ⟨fS, fdS, GS, gS, kS, bS⟩ := CS
  obtain ⟨fO, fdO, GO, gO, kO, bO⟩ := CO
  obtain ⟨fL, fdL, GL, gL, kL, bL⟩ := CL
  obtain ⟨fP, fdP, GP, gP, kP, bP⟩ := CP
  obtain ⟨fA, fdA, GA, gA, kA, bA⟩ := CA
  obtain ⟨fI, fdI, GI, gI, kI, bI⟩ := CI
  obtain ⟨fQ, fdQ, GQ, gQ, kQ, bQ⟩ := CQ
  obtain ⟨gw, oc, od, kV, doc, pm, an, cdw, ct, osl, gWd, kWd, lkWd, hcWd, bWd⟩ := WD
  refine F.gok sc_sr (fun vs H Q E h => ?_) (fun A outer s H vs Q E hg hr h => ?_)
  · obtain ⟨v, u, m, z, d, e, g, y, rfl, _⟩ := h
    rfl
  · obtain ⟨v, u, m, z, d, e, g, y, rfl, hd, he, hm, hz, sy, oy, tb, k⟩ := h
    have hg2 : (cxOf CX0 P w K mg base ["figure", "code", "gone", "spot", "is_figure", "due", "again", "one"] "_law_shape_right" (defScope sSr) f (.ref c) A outer s H E).nox.A.guards = some [] := hg
    have hu2 : (cxOf CX0 P w K mg base ["figure", "code", "gone", "spot", "is_figure", "due", "again", "one"] "_law_shape_right" (defScope sSr) f (.ref c) A outer s H E).nox.A.units + 64 < cLine := by
      have z := hr.units
      exact Nat.lt_of_le_of_lt (Nat.add_le_add_left (by decide) _) z
    have hrL : Room 8 _ := hr
    have hr3 : Room 4 _ := hr.mono (by decide)
    have hr2 : Room 2 _ := hr.mono (by decide)
    have hr1 : Room 1 _ := hr.mono (by decide)
    have eqs : ∀ x : V, (!decide (x = x)) = false := fun x => by simp
    refine ⟨_, (pss_cons (ps_set (i := 4) sc_sr.nd rfl (.inl rfl) (pe_call GF hr2 (by rfl) gF kF bF .nil pass0 (pa_cons (pv 0) pa_nil)))
        (pss_cons (ps_if (pt_cmpR op_ne (pe_callB (call_repr hg2 hu2) (by rfl) T.repr (by decide +kernel) (pa_cons (pe_call GS hr3 (by rfl) gS kS bS .nil pass0 (pa_cons (pv 0) pa_nil)) pa_nil)) (pe_callB (call_repr hg2 hu2) (by rfl) T.repr (by decide +kernel) (pa_cons (pv 4) pa_nil)) (nomark _)) (pss_one (ps_ret (pe_bl))) pss_nil)
        (pss_cons (ps_set (i := 5) sc_sr.nd rfl (.inl rfl) (pe_ifExp (pt_val (pv 4)) (pe_callB (call_repr hg2 hu2) (by rfl) T.repr (by decide +kernel) (pa_cons (pe_call GO hr2 (by rfl) gO kO bO .nil pass0 (pa_cons (pv 0) pa_nil)) pa_nil)) (pe_str)))
        (pss_cons (ps_for PassesOwn.never rfl (pi_range1 (by rfl) T.range (pa_cons (pe_int) pa_nil)) (pg_name (i := 6) sc_sr.nd rfl (.inl rfl)) (pss_one (ps_if (pt_cmpR op_ne (LamX.pe_lamcall (T := TT) (k := 6) (by rfl) gWd kWd lkWd hcWd bWd sc_wrd rfl (.inl rfl) (wrd_gives hg2 hrL TW) TB rfl hmT huT hrL (LamX.lamS_by (sc := defScope sSr) (by decide +kernel)) rfl (fun _ _ _ _ _ => rfl) (fun A outer s H E f c1 hr5 => pe_call GA hr5 (by rfl) gA kA bA .nil (passes_call (takes_of rfl rfl rfl rfl) fun _ _ _ _ h => h) (pa_cons (pv 0) pa_nil))) (pv 5) (nomark _)) (pss_one (ps_ret (pe_bl))) pss_nil)))
        (pss_cons (ps_set (i := 5) sc_sr.nd rfl (.inl rfl) (pe_ifExp (pt_val (pv 4)) (pe_callB (call_repr hg2 hu2) (by rfl) T.repr (by decide +kernel) (pa_cons (pe_cmpR op_in_seq (pe_callB (call_repr hg2 hu2) (by rfl) T.repr (by decide +kernel) (pa_cons (pv 3) pa_nil)) (pe_lc (own := [("one", 7)]) (g := gName 7) rfl sc_sr.nd (pi_list (pe_call GO hr2 (by rfl) gO kO bO .nil pass0 (pa_cons (pv 0) pa_nil))) (blkOk_by (N := ["figure", "code", "gone", "spot", "is_figure", "due", "again", "one"]) (sc := defScope sSr) (by decide +kernel)) (fun _ _ _ _ _ => (pg_name (i := 7) sc_sr.nd rfl (.inl rfl))) (fun _ _ _ _ _ => pts_nil) (fun _ _ _ _ _ => (pe_callB (id := "repr") (show CallR _ (.builtin "repr") (rRepr K) from by refine call_repr ?_ ?_ <;> first | exact hg2 | exact hu2) (by rfl) T.repr (by decide +kernel) (pa_cons (pv 7) pa_nil)))) (by rfl)) pa_nil)) (pe_str)))
        (pss_cons (ps_if (pt_cmpR op_ne (LamX.pe_lamcall (T := TT) (k := 6) (by rfl) gWd kWd lkWd hcWd bWd sc_wrd rfl (.inl rfl) (wrd_gives hg2 hrL TW) TB rfl hmT huT hrL (LamX.lamS_by (sc := defScope sSr) (by decide +kernel)) rfl (fun _ _ _ _ _ => rfl) (fun A outer s H E f c1 hr5 => pe_call GI hr5 (by rfl) gI kI bI .nil (passes_call (takes_of rfl rfl rfl rfl) fun _ _ _ _ h => h) (pa_cons (pv 0) (pa_cons (pv 3) pa_nil)))) (pv 5) (nomark _)) (pss_one (ps_ret (pe_bl))) pss_nil)
        (pss_cons (ps_if (pt_not (pt_val (pv 4))) (pss_one (ps_set (i := 5) sc_sr.nd rfl (.inl rfl) (pe_str))) (pss_one (ps_if (pt_not (pt_val (pe_call GL hr1 (by rfl) gL kL bL .nil pass0 (pa_cons (pv 1) (pa_cons (pe_int) pa_nil))))) (pss_one (ps_set (i := 5) sc_sr.nd rfl (.inl rfl) (pe_str))) (pss_one (ps_if (PW.pt (pw_or (pt_not (pt_val (pe_callB call_isi (by rfl) T.isinstance (by decide +kernel) (pa_cons (pv 2) (pa_cons (pe_bltn (v := .ty "bool") (by rfl) T.bool (by decide +kernel) rfl) pa_nil))))) (pw_or1 (PW.pt (pw_and (pt_val (pv 2)) (pw_and1 (pt_cmpR op_eq (pe_callB call_len_seq (by rfl) T.len PySem.boot_len (pa_cons (pv 0) pa_nil)) (pe_int) (nomark _)))))))) (pss_one (ps_set (i := 5) sc_sr.nd rfl (.inl rfl) (pe_str))) (pss_one (ps_set (i := 5) sc_sr.nd rfl (.inl rfl) (pe_callB (call_repr hg2 hu2) (by rfl) T.repr (by decide +kernel) (pa_cons (pe_tup (pa_cons (pe_callTy call_int1 (by rfl) T.int (by decide +kernel) (pa_cons (pv 2) pa_nil)) (pa_cons (pe_op op_modN (pe_callTy call_int1 (by rfl) T.int (by decide +kernel) (pa_cons (pv 1) pa_nil)) (pe_call GP hr1 (by rfl) gP kP bP .nil pass0 (pa_cons (pe_ix ix_tup (pv 0) (pe_callTy call_int1 (by rfl) T.int (by decide +kernel) (pa_cons (pv 2) pa_nil)) (fun _ _ => rfl)) pa_nil))) pa_nil))) pa_nil)))))))))
        (pss_one (ps_ret (pe_cmpR op_eq (LamX.pe_lamcall (T := TT) (k := 6) (by rfl) gWd kWd lkWd hcWd bWd sc_wrd rfl (.inl rfl) (wrd_gives hg2 hrL TW) TB rfl hmT huT hrL (LamX.lamS_by (sc := defScope sSr) (by decide +kernel)) rfl (fun _ _ _ _ _ => rfl) (fun A outer s H E f c1 hr5 => pe_call GQ hr5 (by rfl) gQ kQ bQ .nil (passes_call (takes_of rfl rfl rfl rfl) fun _ _ _ _ h => h) (pa_cons (pv 0) (pa_cons (pv 1) (pa_cons (pv 2) pa_nil))))) (pv 5) (nomark _))))))))))), ?_⟩
    refine ⟨_, rfl, v, d, rfl, hd, fun H1 s1 => ?_⟩
    refine ⟨_, rfl, v, d, rfl, hd.same s1, fun H2 s2 => ⟨.bl _, .bool _, rfl, .bl _, (shown_bl _).1, (shown_bl _).2.1, (shown_bl _).2.2, _, rfl, .bl _, .bool _, rfl, .bl _, (shown_bl _).1, (shown_bl _).2.1, (shown_bl _).2.2, rfl, _, rfl, iteNb (eqs _) ?_⟩⟩
    have s12 := s1.trans s2
    refine ⟨_, rfl, _, rfl, ?_⟩
    cases q : isFig d with
    | false =>
      refine iteNb rfl ?_
      refine ⟨_, rfl, by decide, by decide, for_range (n := 2) (fun i σ H' => (∃ x, σ = [some v, some u, some m, some z, some (.bl false), some (.str "shape"), x, none]) ∧ LamX.ExtN H H' ∧ LamX.Tabs TT H') ⟨⟨none, rfl⟩, extN_same s12, tb.ext s12⟩ ?_ ?_⟩
      · rintro i σ H3 hi ⟨⟨x, rfl⟩, x3, t3⟩
        refine ⟨t3, fun H4 x4 t4 H0 s0 E1 Q1 he1 hq1 => ⟨_, rfl, v, d, rfl, (hd.extN (x3.trans x4)).same s0, fun H5 s5 _ => he1 2 H5 (by decide) fun H6 s6 => ?_, fun ws _ qt => ?_⟩⟩
        · have s06 := s0.trans (s5.trans s6)
          exact ⟨_, rfl, rfl, _, rfl, iteNb (eqs _) ⟨⟨_, rfl⟩, (x3.trans x4).trans (extN_same s06), t4.ext s06⟩⟩
        · rw [q] at qt
          cases qt
      · rintro σ H3 ⟨⟨x, rfl⟩, x3, t3⟩
        refine ⟨_, rfl, _, rfl, iteNb rfl ?_⟩
        refine ⟨t3, fun H4 x4 t4 H0 s0 E1 Q1 he1 hq1 => ⟨_, rfl, _, rfl, v, z, d, y, rfl, (hd.extN (x3.trans x4)).same s0, (hz.extN (x3.trans x4)).same s0, fun H5 s5 => ⟨fun _ => he1 2 H5 (by decide) fun H6 s6 => ?_, fun qt => ?_⟩⟩⟩
        · have s06 := s0.trans (s5.trans s6)
          have x6 := (x3.trans x4).trans (extN_same s06)
          have t6 := t4.ext s06
          refine ⟨_, rfl, rfl, _, rfl, iteNb (eqs _) ?_⟩
          refine ⟨_, rfl, _, rfl, iteYb rfl ?_⟩
          refine ⟨t6, fun H7 x7 t7 K0 r0 E2 Q2 he2 hq2 => ⟨_, rfl, _, rfl, _, rfl, v, u, m, d, e, g, rfl, (hd.extN (x6.trans x7)).same r0, (he.extN (x6.trans x7)).same r0, (hm.extN (x6.trans x7)).same r0, fun H8 s8 => ⟨fun _ => he2 2 H8 (by decide) fun H9 s9 => ?_, fun qt => ?_, fun qt => ?_, fun ws cc b _ qt => ?_⟩⟩⟩
          · have s09 := r0.trans (s8.trans s9)
            have kk := k H9 ((x6.trans x7).trans (extN_same s09)) (t7.ext s09)
            refine ⟨_, rfl, rfl, ?_⟩
            show Q (.bl (decide (V.str (wdE 2) = V.str (wdE 2)))) H9
            simpa using kk
          · rw [q] at qt
            cases qt
          · rw [q] at qt
            cases qt
          · rw [q] at qt
            cases qt
        · rw [q] at qt
          cases qt
    | true =>
      obtain ⟨ws, rfl, hl, hw⟩ := fig_tup q
      obtain ⟨o1, o2, o3⟩ := ok_spots q
      refine iteYb rfl ?_
      refine ⟨_, rfl, v, ws, rfl, hd.same s12, q, fun H3 D xs s3 hD0 hD hsp => ⟨.ref D, .list (spotsD ws), rfl, .lst (SqL.of hD) hsp.dv, o1, o2, o3, ?_⟩⟩
      have s13 := s12.trans s3
      clear hsp hD hD0
      refine ⟨_, rfl, by decide, by decide, for_range (n := 2) (fun i σ H' => (∃ x, σ = [some v, some u, some m, some z, some (.bl true), some (.str (PyData.list (spotsD ws)).shown), x, none]) ∧ LamX.ExtN H H' ∧ LamX.Tabs TT H') ⟨⟨none, rfl⟩, extN_same s13, tb.ext s13⟩ ?_ ?_⟩
      · rintro i σ H3 hi ⟨⟨x, rfl⟩, x3, t3⟩
        refine ⟨t3, fun H4 x4 t4 H0 s0 E1 Q1 he1 hq1 => ⟨_, rfl, v, _, rfl, (hd.extN (x3.trans x4)).same s0, fun H5 s5 qf => ?_, fun ws' ew _ H5 D xs s5 _ hD hsp => ?_⟩⟩
        · rw [q] at qf
          cases qf
        · cases ew
          refine hq1 (.ref D) (.list (spotsD ws)) H5 (.lst (SqL.of hD) hsp.dv) o1 o2 o3 fun H6 s6 => ?_
          have s06 := s0.trans (s5.trans s6)
          exact ⟨_, rfl, rfl, _, rfl, iteNb (eqs _) ⟨⟨_, rfl⟩, (x3.trans x4).trans (extN_same s06), t4.ext s06⟩⟩
      · rintro σ H3 ⟨⟨x, rfl⟩, x3, t3⟩
        refine ⟨_, rfl, _, rfl, iteYb rfl ?_⟩
        refine ⟨_, rfl, z, y, rfl, hz.extN x3, oy.1, oy.2.1, oy.2.2, _, rfl, v, ws, rfl, hd.extN x3, q, fun H4 D xs s4 _ hD hsp => ⟨D, rfl, ⟨xs, SqL.of hD⟩, fun D2 hD2 => ?_⟩⟩
        have ls := hsp.len
        refine lc_list (xs := xs) (fun i H' => H' D2 = some (.lst (((spotsD ws).take i).map showV)) ∧ Same H4 H') ⟨upd_same, sameN hD2⟩ (fun i H' _ ⟨_, s5⟩ => s5.seq (SqL.of hD)) (fun i x H' hi ⟨h1, s5⟩ => ?_) (fun H5 ⟨h1, s5⟩ => ?_)
        · obtain ⟨di, ei, hdi⟩ := (hsp.dv (K := K)).get hi
          have oi : OkR di := by
            obtain ⟨⟨a, b⟩, hm, rfl⟩ := List.mem_map.mp (List.mem_of_getElem? ei)
            obtain ⟨t, ht, rfl, kk, hk, rfl⟩ := mem_spots.mp hm
            have z := many_le hw t
            exact ok_pair (by omega) (by omega) (by omega) (by omega)
          have hil : i < (spotsD ws).length := (List.getElem?_eq_some_iff.mp ei).1
          refine ⟨rfl, _, rfl, x, di, rfl, hdi.same s5, oi.1, oi.2.1, oi.2.2, _, h1, ?_, ?_, ?_⟩
          · rw [List.length_map, List.length_take]
            have l1 := spotsTo_len (ws := ws) (many_le hw) ws.length
            have l2 : (spotsD ws).length = (spotsTo ws ws.length).length := List.length_map _
            exact Nat.lt_of_lt_of_le (show min i (spotsD ws).length < 1000 by omega) (by decide : 1000 ≤ sizeLine)
          · rw [upd_same, List.take_succ_eq_append_getElem hil, List.map_append]
            have e : (spotsD ws)[i] = di := (List.getElem?_eq_some_iff.mp ei).2
            rw [e]
            rfl
          · intro b o e
            rw [upd_ne (ne_of_none e hD2)]
            exact s5 _ _ e
        · have l2 : xs.length = (spotsD ws).length := ls.trans (List.length_map _).symm
          rw [l2, List.take_length] at h1
          have fl : ((spotsD ws).map showV).all flatV = true := by
            rw [List.all_eq_true]
            intro w hw
            obtain ⟨d, _, rfl⟩ := List.mem_map.mp hw
            rfl
          have s35 := s4.trans s5
          have x5 := x3.trans (extN_same s35)
          have t5 := t3.ext s35
          have eqp : [V.bl (inV (.str y.shown) ((spotsD ws).map showV))] = [V.bl (isSpot (.tuple ws) y)] := by rw [spot_in sy]
          refine ⟨D2, _, rfl, .inl (SqL.of h1), rfl, fl, .bl (isSpot (.tuple ws) y), .bool (isSpot (.tuple ws) y), eqp, .bl _, (shown_bl _).1, (shown_bl _).2.1, (shown_bl _).2.2, ?_⟩
          refine ⟨t5, fun H6 x6 t6 H0 s0 E1 Q1 he1 hq1 => ⟨_, rfl, _, rfl, v, z, _, y, rfl, (hd.extN (x5.trans x6)).same s0, (hz.extN (x5.trans x6)).same s0, fun H7 s7 => ⟨fun qf => ?_, fun _ => hq1 _ (.bool _) H7 (.bl _) (shown_bl _).1 (shown_bl _).2.1 (shown_bl _).2.2 fun H8 s8 => ?_⟩⟩⟩
          · rw [q] at qf
            cases qf
          · have s08 := s0.trans (s7.trans s8)
            have x8 := (x5.trans x6).trans (extN_same s08)
            have t8 := t6.ext s08
            refine ⟨_, rfl, rfl, _, rfl, iteNb (eqs _) ?_⟩
            refine ⟨_, rfl, _, rfl, iteNb rfl ?_⟩
            refine ⟨_, rfl, u, e, 32, rfl, he.extN x8, _, rfl, ?_⟩
            have w1 : ∀ (n : Nat) {K6 K9 : Hp}, LamX.ExtN H K6 → LamX.Tabs TT K6 → Same K6 K9 → ∀ x : Str, Q (.bl (decide (V.str x = V.str x))) K9 := fun _ K6 K9 xx tt ss x => by
              have kk := k K9 (xx.trans (extN_same ss)) (tt.ext ss)
              simpa using kk
            cases qe : numIn 0 31 e with
            | false =>
              refine iteYb (by show (!numIn 0 31 e) = true; rw [qe]; rfl) ?_
              refine ⟨t8, fun K6 x7 t7 K0 r0 E2 Q2 he2 hq2 => ⟨_, rfl, _, rfl, _, rfl, v, u, m, _, e, g, rfl, (hd.extN (x8.trans x7)).same r0, (he.extN (x8.trans x7)).same r0, (hm.extN (x8.trans x7)).same r0, fun K8 s8 => ⟨fun qf => ?_, fun _ _ => he2 1 K8 (by decide) fun K9 s9 => ?_, fun _ z => ?_, fun ws' cc b _ _ ee c0 c9 => ?_⟩⟩⟩
              · rw [q] at qf
                cases qf
              · exact ⟨_, rfl, rfl, w1 0 (x8.trans x7) t7 (r0.trans (s8.trans s9)) _⟩
              · rw [qe] at z
                cases z
              · subst ee
                have z : (decide (0 ≤ cc) && decide (cc ≤ 31)) = false := qe
                rw [decide_eq_true c0, decide_eq_true c9] at z
                cases z
            | true =>
              refine iteNb (by show (!numIn 0 31 e) = false; rw [qe]; rfl) ?_
              refine ⟨_, rfl, m, .ty "bool", .type (tyD g), .type "bool", _, rfl, .ty _, (hm.extN x8).ty, kit_ty (kit_bool g), _, rfl, ?_⟩
              have mv : movOk ws.length g = false → (LamX.Tabs TT H8 ∧ True) := fun _ => ⟨t8, trivial⟩
              cases qb : isB g with
              | false =>
                have mf : movOk ws.length g = false := by
                  cases g with
                  | bool b => cases qb
                  | _ => rfl
                refine ⟨t8, fun K6 x7 t7 K0 r0 E2 Q2 he2 hq2 => ⟨_, rfl, _, rfl, _, rfl, _, u, m, _, e, g, rfl, (hd.extN (x8.trans x7)).same r0, (he.extN (x8.trans x7)).same r0, (hm.extN (x8.trans x7)).same r0, fun K8 s8 => ⟨fun qf => ?_, fun _ z => ?_, fun _ _ _ => he2 3 K8 (by decide) fun K9 s9 => ?_, fun ws' cc b' ew _ _ _ _ _ mk => ?_⟩⟩⟩
                · rw [q] at qf
                  cases qf
                · rw [qe] at z
                  cases z
                · exact ⟨_, rfl, rfl, w1 0 (x8.trans x7) t7 (r0.trans (s8.trans s9)) _⟩
                · cases ew
                  rw [mf] at mk
                  cases mk
              | true =>
                obtain ⟨b, rfl⟩ : ∃ b, g = .bool b := by
                  cases g with
                  | bool b => exact ⟨b, rfl⟩
                  | _ => cases qb
                obtain rfl : m = .bl b := by cases hm; rfl
                obtain ⟨a, xs0, rfl, ha, hx⟩ := hd.tup_inv
                have lx := hx.len
                have at_ : ∀ j : Nat, j < ws.length → ∃ mm, ws.getD j .none = .int mm ∧ xs0[j]? = some (.int mm) ∧ 0 ≤ mm ∧ mm ≤ 5 := fun j hj => by
                  have hjx : j < xs0.length := by omega
                  obtain ⟨dm, em, hdm⟩ := hx.get (List.getElem?_eq_getElem hjx)
                  obtain ⟨mm, rfl, m0, m5⟩ := hw j dm em
                  refine ⟨mm, ?_, ?_, m0, m5⟩
                  · rw [List.getD_eq_getElem?_getD, em]
                    rfl
                  · rw [List.getElem?_eq_getElem hjx, hdm.int_inv]
                refine ⟨_, rfl, _, rfl, ?_⟩
                cases b with
                | false =>
                  have mt : movOk ws.length (.bool false) = true := rfl
                  obtain ⟨cc, rfl, c0, c9⟩ := numIn_some qe
                  obtain rfl := he.int_inv
                  obtain ⟨mm, e1, e2, m0, m5⟩ := at_ 0 (by omega)
                  have p2 : (0 : Int) < 2 ^ mm.toNat := Int.pow_pos (by decide)
                  have p9 : (2 : Int) ^ mm.toNat ≤ 32 := by
                    rcases (show mm = 0 ∨ mm = 1 ∨ mm = 2 ∨ mm = 3 ∨ mm = 4 ∨ mm = 5 by omega) with rfl | rfl | rfl | rfl | rfl | rfl <;> decide
                  have ef : cc.fmod (2 ^ mm.toNat) = cc % 2 ^ mm.toNat := Int.fmod_eq_emod_of_nonneg _ (Int.le_of_lt p2)
                  have r0' : 0 ≤ cc.fmod (2 ^ mm.toNat) := by
                    rw [ef]
                    exact Int.emod_nonneg _ (by omega)
                  have r9' : cc.fmod (2 ^ mm.toNat) < 1000 := by
                    have z := Int.emod_lt_of_pos cc p2
                    rw [ef]
                    omega
                  have okp : OkR (.tuple [.int 0, .int (cc.fmod (2 ^ mm.toNat))]) := ok_pair (by decide) (by decide) r0' r9'
                  have esp : spotAt ws cc false = [.int 0, .int (cc.fmod (2 ^ mm.toNat))] := by
                    show [V.int 0, V.int (cc % 2 ^ (intOf (ws.getD 0 .none)).toNat)] = _
                    rw [e1, ef]
                    rfl
                  refine ⟨_, rfl, .inr ⟨false, rfl, _, rfl, .inl ⟨cc, rfl, _, rfl, _, rfl, .inr ⟨false, rfl, a, xs0, 0, _, rfl, rfl, sqT_extN x8 ha, atI_nat (j := 0) e2, mm, rfl, m0, m5, fun L9 l9 => ⟨_, _, rfl, rfl, by omega, by show 2 ≤ sizeLine; decide, fun p hp => ?_⟩⟩⟩⟩⟩
                  refine ⟨.ref p, .tuple [.int 0, .int (cc.fmod (2 ^ mm.toNat))], rfl, .tup (SqT.of upd_same) (.cons (.int _) (.cons (.int _) .nil)), okp.1, okp.2.1, okp.2.2, ?_⟩
                  have s10 := l9.trans (sameN (o := .tup [.int 0, .int (cc.fmod (2 ^ mm.toNat))]) hp)
                  have x10 := x8.trans (extN_same s10)
                  refine ⟨t8.ext s10, fun K6 x7 t7 K0 r0 E2 Q2 he2 hq2 => ⟨_, rfl, _, rfl, _, rfl, _, .int cc, .bl false, _, .int cc, .bool false, rfl, (hd.extN (x10.trans x7)).same r0, .int cc, .bl false, fun K8 s8 => ⟨fun qf => ?_, fun _ z => ?_, fun _ _ z => ?_, fun ws' cc' b' ew _ ee _ _ eg _ p' hp' => ?_⟩⟩⟩
                  · rw [q] at qf
                    cases qf
                  · rw [qe] at z
                    cases z
                  · have z' : movOk ws.length (.bool false) = false := z
                    rw [mt] at z'
                    cases z'
                  · cases ew
                    cases ee
                    cases eg
                    refine hq2 (.ref p') (.tuple [.int 0, .int (cc.fmod (2 ^ mm.toNat))]) _ (by rw [esp]; exact .tup (SqT.of upd_same) (.cons (.int _) (.cons (.int _) .nil))) okp.1 okp.2.1 okp.2.2 fun K9 s9 => ?_
                    exact ⟨_, rfl, rfl, w1 0 (x10.trans x7) t7 (r0.trans (s8.trans ((sameN hp').trans s9))) _⟩
                | true =>
                  refine ⟨_, rfl, a, xs0, rfl, .inr (sqT_extN x8 ha), rfl, _, rfl, ?_⟩
                  by_cases l1 : ws.length = 1
                  · have mf : movOk ws.length (.bool true) = false := by
                      show (!true || decide (ws.length ≠ 1)) = false
                      simp [l1]
                    refine iteYb (b := decide (V.int (xs0.length : Int) = V.int 1)) (by rw [lx, l1]; simp) ?_
                    refine ⟨t8, fun K6 x7 t7 K0 r0 E2 Q2 he2 hq2 => ⟨_, rfl, _, rfl, _, rfl, _, u, (.bl true), _, e, (.bool true), rfl, (hd.extN (x8.trans x7)).same r0, (he.extN (x8.trans x7)).same r0, (hm.extN (x8.trans x7)).same r0, fun K8 s8 => ⟨fun qf => ?_, fun _ z => ?_, fun _ _ _ => he2 3 K8 (by decide) fun K9 s9 => ?_, fun ws' cc b' ew _ _ _ _ _ mk => ?_⟩⟩⟩
                    · rw [q] at qf
                      cases qf
                    · rw [qe] at z
                      cases z
                    · exact ⟨_, rfl, rfl, w1 0 (x8.trans x7) t7 (r0.trans (s8.trans s9)) _⟩
                    · cases ew
                      rw [mf] at mk
                      cases mk
                  · have mt : movOk ws.length (.bool true) = true := by
                      show (!true || decide (ws.length ≠ 1)) = true
                      simp [l1]
                    have n1 : ¬ (xs0.length : Int) = 1 := by omega
                    refine iteNb (b := decide (V.int (xs0.length : Int) = V.int 1)) (by simp [n1]) ?_
                    obtain ⟨cc, rfl, c0, c9⟩ := numIn_some qe
                    obtain rfl := he.int_inv
                    obtain ⟨mm, e1, e2, m0, m5⟩ := at_ 1 (by omega)
                    have p2 : (0 : Int) < 2 ^ mm.toNat := Int.pow_pos (by decide)
                    have p9 : (2 : Int) ^ mm.toNat ≤ 32 := by
                      rcases (show mm = 0 ∨ mm = 1 ∨ mm = 2 ∨ mm = 3 ∨ mm = 4 ∨ mm = 5 by omega) with rfl | rfl | rfl | rfl | rfl | rfl <;> decide
                    have ef : cc.fmod (2 ^ mm.toNat) = cc % 2 ^ mm.toNat := Int.fmod_eq_emod_of_nonneg _ (Int.le_of_lt p2)
                    have r0' : 0 ≤ cc.fmod (2 ^ mm.toNat) := by
                      rw [ef]
                      exact Int.emod_nonneg _ (by omega)
                    have r9' : cc.fmod (2 ^ mm.toNat) < 1000 := by
                      have z := Int.emod_lt_of_pos cc p2
                      rw [ef]
                      omega
                    have okp : OkR (.tuple [.int 1, .int (cc.fmod (2 ^ mm.toNat))]) := ok_pair (by decide) (by decide) r0' r9'
                    have esp : spotAt ws cc true = [.int 1, .int (cc.fmod (2 ^ mm.toNat))] := by
                      show [V.int 1, V.int (cc % 2 ^ (intOf (ws.getD 1 .none)).toNat)] = _
                      rw [e1, ef]
                      rfl
                    refine ⟨_, rfl, .inr ⟨true, rfl, _, rfl, .inl ⟨cc, rfl, _, rfl, _, rfl, .inr ⟨true, rfl, a, xs0, 1, _, rfl, rfl, sqT_extN x8 ha, atI_nat (j := 1) e2, mm, rfl, m0, m5, fun L9 l9 => ⟨_, _, rfl, rfl, by omega, by show 2 ≤ sizeLine; decide, fun p hp => ?_⟩⟩⟩⟩⟩
                    refine ⟨.ref p, .tuple [.int 1, .int (cc.fmod (2 ^ mm.toNat))], rfl, .tup (SqT.of upd_same) (.cons (.int _) (.cons (.int _) .nil)), okp.1, okp.2.1, okp.2.2, ?_⟩
                    have s10 := l9.trans (sameN (o := .tup [.int 1, .int (cc.fmod (2 ^ mm.toNat))]) hp)
                    have x10 := x8.trans (extN_same s10)
                    refine ⟨t8.ext s10, fun K6 x7 t7 K0 r0 E2 Q2 he2 hq2 => ⟨_, rfl, _, rfl, _, rfl, _, .int cc, .bl true, _, .int cc, .bool true, rfl, (hd.extN (x10.trans x7)).same r0, .int cc, .bl true, fun K8 s8 => ⟨fun qf => ?_, fun _ z => ?_, fun _ _ z => ?_, fun ws' cc' b' ew _ ee _ _ eg _ p' hp' => ?_⟩⟩⟩
                    · rw [q] at qf
                      cases qf
                    · rw [qe] at z
                      cases z
                    · have z' : movOk ws.length (.bool true) = false := z
                      rw [mt] at z'
                      cases z'
                    · cases ew
                      cases ee
                      cases eg
                      refine hq2 (.ref p') (.tuple [.int 1, .int (cc.fmod (2 ^ mm.toNat))]) _ (by rw [esp]; exact .tup (SqT.of upd_same) (.cons (.int _) (.cons (.int _) .nil))) okp.1 okp.2.1 okp.2.2 fun K9 s9 => ?_
                      exact ⟨_, rfl, rfl, w1 0 (x10.trans x7) t7 (r0.trans (s8.trans ((sameN hp').trans s9))) _⟩
end
end Own
/-! The law's question of a number. -/
namespace Own
open PySem PySem.Spec PyProof.Rows L2
abbrev sNr : Stmt := top1 35
/-- what one def does that may show data, where it stands -/
def CalG (P : Program) (w : World) (K : PySem.W.Frag) (mg : Str → Option Value) (base : Heap) (CX : CXT) (k : Nat) (x : Str) (ps : List Str) (sp : Sp) : Prop :=
  ∃ (f : Addr) (fd : FuncData), GFn P w K mg base CX k f fd ps sp ∧ mg x = some (.ref f) ∧ PySem.W.keepIn K (.ref f) = true ∧ Binds K fd ps []
theorem ok_intZ {i : Int} (h0 : -100000 ≤ i) (h9 : i ≤ 100000) : okD (.int i) = true := by
  show decide (i.natAbs.log2 < 1920) = true
  rw [decide_eq_true_iff]
  by_cases y : i.natAbs = 0
  · rw [y]; decide
  · exact Nat.lt_of_lt_of_le ((Nat.log2_lt y).mpr (Nat.lt_of_lt_of_le (show i.natAbs < 10 ^ 9 by omega) (by decide : 10 ^ 9 ≤ 2 ^ 30))) (by decide)
theorem ok_pairZ {x y : Int} (x0 : -100000 ≤ x) (x9 : x ≤ 100000) (y0 : -100000 ≤ y) (y9 : y ≤ 100000) : OkR (.tuple [.int x, .int y]) := by
  have ox := ok_intZ x0 x9
  have oy' := ok_intZ y0 y9
  have lx := PyData.shown_int_le2 (i := x) (by omega) (by omega)
  have ly := PyData.shown_int_le2 (i := y) (by omega) (by omega)
  refine ⟨?_, ?_, ?_⟩
  · simp only [okD, okAll, Bool.and_true, Bool.and_eq_true] at *
    exact ⟨ox, oy'⟩
  · refine PyData.shown_fits_bulk (B := 13) (by decide) (by decide) ?_ ?_
    · simp only [PyData.leavesShort, PyData.leavesShortAll, Bool.and_true, Bool.and_eq_true, decide_eq_true_eq]
      exact ⟨lx, ly⟩
    · simp only [PyData.bulk, PyData.bulkAll]
      decide
  · simp [PyData.depth, PyData.depthAll]
def spNr (K : PySem.W.Frag) (TT : List (Addr × Str)) : Sp := fun vs H Q _ => ∃ n : Int, vs = [.int n] ∧ -100000 ≤ n ∧ n ≤ 100000 ∧ LamX.Tabs TT H ∧ ∀ H', LamX.ExtN H H' → LamX.Tabs TT H' → Q (.bl true) H'
section
variable {P : Program} {w : World} {K : PySem.W.Frag} {mg : Str → Option Value} {base : Heap}
abbrev CalBr (P : Program) (w : World) (K : PySem.W.Frag) (mg : Str → Option Value) (base : Heap) (TT : List (Addr × Str)) : Prop := CalG P w K mg base CX0 8 "_law_bits_right" ["code", "wide"] (spBr K TT)
abbrev CalSr (P : Program) (w : World) (K : PySem.W.Frag) (mg : Str → Option Value) (base : Heap) (TT : List (Addr × Str)) : Prop := CalG P w K mg base CX0 9 "_law_shape_right" ["figure", "code", "gone", "spot"] (spSr K TT)
theorem sc_nr : FnScope ["number"] ["number"] (defScope sNr) := ⟨rfl, rfl, rfl, by decide +kernel, rfl, by decide +kernel, by decide +kernel⟩
theorem dv_pair {K : PySem.W.Frag} {H : Hp} {p : Addr} {x y : Int} (h : H p = some (.tup [.int x, .int y])) : Dv K H (.ref p) (.tuple [.int x, .int y]) := .tup (SqT.of h) (.cons (.int _) (.cons (.int _) .nil))
theorem ok_nr {f : Addr} {TT : List (Addr × Str)} {fd : FuncData} (F : Fun K "_law_number_right" "_law_number_right" sNr f fd) (CB : CalBr P w K mg base TT) (CS : CalSr P w K mg base TT) : GFn P w K mg base CX0 10 f fd ["number"] (spNr K TT) := by
  obtain ⟨fB, fdB, GB, gB, kB, bB⟩ := CB
  obtain ⟨fS, fdS, GS, gS, kS, bS⟩ := CS
  refine Own.Fun.gok F sc_nr (fun vs H Q E h => ?_) (fun cdv A outer s H vs Q E hg hr h => ?_)
  · obtain ⟨n, rfl, _⟩ := h
    rfl
  · obtain ⟨n, rfl, n0, n9, tb, k⟩ := h
    have hg2 : (cxOf CX0 P w K mg base ["number"] "_law_number_right" (defScope sNr) f cdv A outer s H E).nox.A.guards = some [] := hg
    have hr8 : Room 9 _ := hr
    have hr7 : Room 8 _ := hr.mono (by decide)
    refine ⟨_, (pss_cons (ps_if (PW.pt (pw_or (pt_not (pt_val (pe_callG GB hg2 hr7 (by rfl) gB kB bB .nil pass0 (pa_cons (pe_int) (pa_cons (pv 0) pa_nil))))) (pw_or1 (pt_not (pt_val (pe_callG GB hg2 hr7 (by rfl) gB kB bB .nil pass0 (pa_cons (pv 0) (pa_cons (pe_int) pa_nil)))))))) (pss_one (ps_ret (pe_bl))) pss_nil)
        (pss_cons (ps_if (PW.pt (pw_or (pt_not (pt_val (pe_callG GS hg2 hr8 (by rfl) gS kS bS .nil pass0 (pa_cons (pe_tup (pa_cons (pv 0) pa_nil)) (pa_cons (pe_int) (pa_cons (pe_bl) (pa_cons (pe_tup (pa_cons (pe_int) (pa_cons (pe_int) pa_nil))) pa_nil))))))) (pw_or1 (pt_not (pt_val (pe_callG GS hg2 hr8 (by rfl) gS kS bS .nil pass0 (pa_cons (pe_tup (pa_cons (pe_int) (pa_cons (pv 0) pa_nil))) (pa_cons (pe_int) (pa_cons (pe_bl) (pa_cons (pe_tup (pa_cons (pe_int) (pa_cons (pe_int) pa_nil))) pa_nil)))))))))) (pss_one (ps_ret (pe_bl))) pss_nil)
        (pss_one (ps_ret (pe_and (pe_callG GS hg2 hr8 (by rfl) gS kS bS .nil pass0 (pa_cons (pe_tup (pa_cons (pe_int) (pa_cons (pe_int) pa_nil))) (pa_cons (pv 0) (pa_cons (pe_bl) (pa_cons (pe_tup (pa_cons (pe_int) (pa_cons (pv 0) pa_nil))) pa_nil))))) (pe_one (pe_callG GS hg2 hr8 (by rfl) gS kS bS .nil pass0 (pa_cons (pe_tup (pa_cons (pe_int) pa_nil)) (pa_cons (pe_int) (pa_cons (pe_bl) (pa_cons (pe_tup (pa_cons (pv 0) (pa_cons (pe_int) pa_nil))) pa_nil))))))))))), ?_⟩
    refine ⟨_, rfl, .int 3, .int n, .int 3, .int n, rfl, .int _, .int _, tb, fun H1 x1 t1 => ⟨_, rfl, ?_⟩⟩
    refine ⟨_, rfl, .int n, .int 3, .int n, .int 3, rfl, .int _, .int _, t1, fun H2 x2 t2 => ⟨_, rfl, ?_⟩⟩
    have x12 := x1.trans x2
    have nz : ∀ {Hx : Hp} {p q : Addr} {o o2 : HO}, upd Hx p o q = none → (upd (upd Hx p o) q o2) p = some o := fun {Hx p q o o2} hq => by
      rw [upd_ne (ne_of_none upd_same hq), upd_same]
    refine ⟨_, rfl, by show 1 ≤ sizeLine; decide, fun p hp => ⟨by show 2 ≤ sizeLine; decide, fun p2 hp2 => ?_⟩⟩
    have sa := (sameN (o := .tup [.int n]) hp).trans (sameN (o := .tup [.int 0, .int 0]) hp2)
    refine ⟨.ref p, .int 3, .bl false, .ref p2, .tuple [.int n], .int 3, .bool false, .tuple [.int 0, .int 0], rfl, .tup (SqT.of (nz hp2)) (.cons (.int _) .nil), .int _, .bl _, dv_pair upd_same, spotD_pair 0 0, ok_pairZ (by decide) (by decide) (by decide) (by decide), t2.ext sa, fun H3 x3 t3 => ⟨_, rfl, ?_⟩⟩
    have x13 := (x12.trans (extN_same sa)).trans x3
    refine ⟨_, rfl, by show 2 ≤ sizeLine; decide, fun p3 hp3 => ⟨by show 2 ≤ sizeLine; decide, fun p4 hp4 => ?_⟩⟩
    have sb := (sameN (o := .tup [.int 0, .int n]) hp3).trans (sameN (o := .tup [.int 0, .int 0]) hp4)
    refine ⟨.ref p3, .int 3, .bl false, .ref p4, .tuple [.int 0, .int n], .int 3, .bool false, .tuple [.int 0, .int 0], rfl, dv_pair (nz hp4), .int _, .bl _, dv_pair upd_same, spotD_pair 0 0, ok_pairZ (by decide) (by decide) (by decide) (by decide), t3.ext sb, fun H4 x4 t4 => ⟨_, rfl, ?_⟩⟩
    have x14 := (x13.trans (extN_same sb)).trans x4
    refine ⟨by show 2 ≤ sizeLine; decide, fun p5 hp5 => ⟨_, rfl, _, rfl, by show 2 ≤ sizeLine; decide, fun p6 hp6 => ?_⟩⟩
    have sc := (sameN (o := .tup [.int 4, .int 5]) hp5).trans (sameN (o := .tup [.int 1, .int n]) hp6)
    refine ⟨.ref p5, .int n, .bl true, .ref p6, .tuple [.int 4, .int 5], .int n, .bool true, .tuple [.int 1, .int n], rfl, dv_pair (nz hp6), .int _, .bl _, dv_pair upd_same, spotD_pair 1 n, ok_pairZ (by decide) (by decide) n0 n9, t4.ext sc, fun H5 x5 t5 => ⟨_, rfl, ?_⟩⟩
    have x15 := (x14.trans (extN_same sc)).trans x5
    refine ⟨by show 1 ≤ sizeLine; decide, fun p7 hp7 => ⟨_, rfl, by show 2 ≤ sizeLine; decide, fun p8 hp8 => ?_⟩⟩
    have sd := (sameN (o := .tup [.int 3]) hp7).trans (sameN (o := .tup [.int n, .int 0]) hp8)
    exact ⟨.ref p7, .int 3, .bl false, .ref p8, .tuple [.int 3], .int 3, .bool false, .tuple [.int n, .int 0], rfl, .tup (SqT.of (nz hp8)) (.cons (.int _) .nil), .int _, .bl _, dv_pair upd_same, spotD_pair n 0, ok_pairZ n0 n9 (by decide) (by decide), t5.ext sd, fun H6 x6 t6 => k H6 ((x15.trans (extN_same sd)).trans x6) t6⟩
end
end Own
/-! The pen of a law: a list of the script's first ints, a place and a rest; what a draw gives. -/
namespace Own
open PySem L2
abbrev sPen : Stmt := top1 23
abbrev sNext : Stmt := top1 24
abbrev sDraw : Stmt := top1 25

/-- a pen at p: the list at a, the place i, the rest n -/
structure Pen (H : Hp) (p a : Addr) (ns : List Int) (i n : Int) : Prop where
  hp : H p = some (.lst [.ref a, .int i, .int n])
  ha : H a = some (.lst (ns.map V.int))
  len : ns.length ≤ 60
  hi : 0 ≤ i
  hn : 0 ≤ n
def spPen (K : PySem.W.Frag) : Sp := fun vs H Q _ => ∃ (s : Addr) (ns : List Int), vs = [.ref s] ∧ SqL K H s (ns.map V.int) ∧
  ∀ H' p a ms, H p = none → Same H H' → Pen H' p a ms 0 0 → Q (.ref p) H'
def spNext : Sp := fun vs H Q _ => ∃ (p a : Addr) (ns : List Int) (i n : Int), vs = [.ref p] ∧ Pen H p a ns i n ∧ i ≤ 1000000000 ∧
  ∀ (r : Int) (H' : Hp), 0 ≤ r → Same (upd H p (.lst [.ref a, .int (i + 1), .int n])) H' → Q (.int r) H'
def spDraw : Sp := fun vs H Q _ => ∃ (p a : Addr) (ns : List Int) (i n u : Int), vs = [.ref p, .int u] ∧ Pen H p a ns i n ∧ i ≤ 1000000000 ∧ 0 < u ∧ u < 1000000000 ∧
  ∀ (d i' n' : Int) (H' : Hp), 0 ≤ d → d < u → Pen H' p a ns i' n' → i' ≤ i + 1 → (∀ b o, b ≠ p → H b = some o → H' b = some o) → Q (.int d) H'

theorem lay_ints : ∀ ns : List Int, PyData.canLayAll0 (ns.map PyData.int) = true
  | [] => rfl
  | n :: r => by
    have h := lay_ints r
    simp only [List.map_cons, PyData.canLayAll0, PyData.canLay0, h, Bool.and_self]
theorem deep_ints : ∀ ns : List Int, PyData.depthAll (ns.map PyData.int) = 0
  | [] => rfl
  | n :: r => by
    have h := deep_ints r
    simp only [List.map_cons, PyData.depthAll, PyData.depth, h, Nat.max_self]
theorem shaped_ints (ns : List Int) : SeqAt.shaped (.list (ns.map PyData.int)) = true := by
  unfold SeqAt.shaped
  simp only [PyData.canLay0, PyData.depth, lay_ints, deep_ints, Bool.true_and]
  decide
theorem dp_ints {K : PySem.W.Frag} {H : Hp} : ∀ ns : List Int, DpAll K H (ns.map V.int) (ns.map PyData.int)
  | [] => .nil
  | n :: r => .cons (.int n) (dp_ints r)
theorem at_some {α : Type} {l : List α} {i : Int} (h0 : 0 ≤ i) (h1 : i < l.length) : ∃ x, l[i.toNat]? = some x ∧ atI l i = some x := by
  have h : i.toNat < l.length := by omega
  have e : (i.toNat : Int) = i := Int.toNat_of_nonneg h0
  have z := atI_nat (List.getElem?_eq_getElem h)
  rw [e] at z
  exact ⟨l[i.toNat], List.getElem?_eq_getElem h, z⟩
theorem fm_lo {a b : Int} (h : 0 < b) : 0 ≤ a.fmod b := by rw [Int.fmod_eq_emod_of_nonneg _ (Int.le_of_lt h)]; exact Int.emod_nonneg _ (Int.ne_of_gt h)
theorem fm_hi {a b : Int} (h : 0 < b) : a.fmod b < b := by rw [Int.fmod_eq_emod_of_nonneg _ (Int.le_of_lt h)]; exact Int.emod_lt_of_pos _ h
theorem fd_lo {a b : Int} (ha : 0 ≤ a) (h : 0 < b) : 0 ≤ a.fdiv b := by rw [Int.fdiv_eq_ediv_of_nonneg _ (Int.le_of_lt h)]; exact Int.ediv_nonneg ha (Int.le_of_lt h)
section
variable {P : Program} {w : World} {K : PySem.W.Frag} {mg : Str → Option Value} {base : Heap}
theorem sc_pen : FnScope ["script"] ["script"] (defScope sPen) := ⟨rfl, rfl, rfl, by decide +kernel, rfl, by decide +kernel, by decide +kernel⟩
theorem ok_pen {f : Addr} {fd : FuncData} (F : Fun K "_law_pen" "_law_pen" sPen f fd) (nl : mg "list" = none) : FnOk P w K mg base CX0 1 f fd ["script"] (spPen K) := by
  refine F.ok sc_pen (fun vs H Q E h => ?_) (fun cdv A outer s H vs Q E hr h => ?_)
  · obtain ⟨s, ns, rfl, _⟩ := h
    rfl
  · obtain ⟨s, ns, rfl, hs, k⟩ := h
    refine ⟨_, pss_one (ps_ret (pe_lst (pa_cons (pe_callTy call_list_of (by rfl) nl (by decide +kernel) (pa_cons (pe_slice sl_list (pv 0) po_none (po_some pe_int)) pa_nil)) (pa_cons pe_int (pa_cons pe_int pa_nil))))), ?_⟩
    refine ⟨_, rfl, _, rfl, s, _, rfl, hs, fun p hp => ⟨p, _, rfl, .inl (SqL.of upd_same), fun l hl => ⟨by show 3 ≤ sizeLine; decide, fun q hq => ?_⟩⟩⟩
    have npl : p ≠ l := fun z => by rw [z, upd_same] at hl; cases hl
    have hl0 : H l = Option.none := by rw [upd_ne npl.symm] at hl; exact hl
    have nql : l ≠ q := fun z => by rw [← z, upd_same] at hq; cases hq
    have hq1 : upd H p (.lst (cutV (ns.map V.int) none (some 60))) q = Option.none := by rw [upd_ne nql.symm] at hq; exact hq
    have nqp : p ≠ q := fun z => by rw [← z, upd_same] at hq1; cases hq1
    have hq0 : H q = Option.none := by rw [upd_ne nqp.symm] at hq1; exact hq1
    have ec : cutV (ns.map V.int) none (some 60) = (ns.take 60).map V.int := by
      unfold cutV HT.sIx
      show List.take (min (60 : Int).toNat (ns.map V.int).length - 0) (List.drop 0 (ns.map V.int)) = _
      rw [List.drop_zero, Nat.sub_zero, List.length_map, List.map_take, show (60 : Int).toNat = 60 from rfl]
      by_cases h : ns.length ≤ 60
      · rw [Nat.min_eq_right h, List.take_of_length_le (by rw [List.length_map]; exact Nat.le_refl _), List.take_of_length_le (by rw [List.length_map]; exact h)]
      · rw [Nat.min_eq_left (by omega)]
    refine k _ q l (ns.take 60) hq0 (fun b o e => ?_) ⟨upd_same, ?_, ?_, Int.le_refl _, Int.le_refl _⟩
    · rw [upd_ne (ne_of_none e hq0), upd_ne (ne_of_none e hl0), upd_ne (ne_of_none e hp)]
      exact e
    · rw [upd_ne nql, upd_same, ec]
    · rw [List.length_take]; omega
theorem sc_next : FnScope ["pen", "index", "cell_here", "some", "more", "top"] ["pen"] (defScope sNext) := ⟨rfl, rfl, rfl, by decide +kernel, rfl, by decide +kernel, by decide +kernel⟩
structure Blt (mg : Str → Option Value) : Prop where
  lst : mg "list" = none
  int : mg "int" = none
  len : mg "len" = none
theorem ok_next {f : Addr} {fd : FuncData} (F : Fun K "_law_next" "_law_next" sNext f fd) (T : Blt mg) : FnOk P w K mg base CX0 1 f fd ["pen"] spNext := by
  refine F.ok sc_next (fun vs H Q E h => ?_) (fun cdv A outer s H vs Q E hr h => ?_)
  · obtain ⟨p, a, ns, i, n, rfl, _⟩ := h
    rfl
  · obtain ⟨p, a, ns, i, n, rfl, L, hi9, k⟩ := h
    have hu := hu_of hr
    refine ⟨_, (pss_cons (ps_set (i := 1) sc_next.nd rfl (.inl rfl) (pe_ix ix_list (pv 0) (pe_int) (fun _ _ => rfl)))
        (pss_cons (ps_asg (pe_op op_add (pv 1) (pe_int)) (pg_sub (pv 0) (pe_int) set_list))
        (pss_cons (ps_set (i := 2) sc_next.nd rfl (.inl rfl) (pe_op op_add (pe_op op_mul (pv 1) (pe_int)) (pe_int)))
        (pss_cons (ps_if (pt_cmpR (op_neD hr.units) (pe_ix ix_list (pv 0) (pe_int) (fun _ _ => rfl)) (pe_lst pa_nil) (nomark _)) (pss_one (ps_set (i := 2) sc_next.nd rfl (.inl rfl) (pe_ix ix_list (pe_ix ix_list (pv 0) (pe_int) (fun _ _ => rfl)) (pe_op op_modN (pe_callTy call_int1 (by rfl) T.int (by decide +kernel) (pa_cons (pv 1) pa_nil)) (pe_callB call_len_seq (by rfl) T.len PySem.boot_len (pa_cons (pe_ix ix_list (pv 0) (pe_int) (fun _ _ => rfl)) pa_nil))) (fun _ _ => rfl)))) pss_nil)
        (pss_cons (ps_if (PW.pt (pw_and (pt_cmpR op_lt (pv 1) (pe_callB call_len_seq (by rfl) T.len PySem.boot_len (pa_cons (pe_ix ix_list (pv 0) (pe_int) (fun _ _ => rfl)) pa_nil)) (nomark _)) (pw_and1 (pt_cmpR op_ge (pv 2) (pe_op op_pow (pe_int) (pe_int)) (nomark _))))) (pss_one (ps_ret (pv 2))) pss_nil)
        (pss_cons (ps_set (i := 3) sc_next.nd rfl (.inl rfl) (pe_op op_modN (pe_callTy call_int1 (by rfl) T.int (by decide +kernel) (pa_cons (pe_op op_add (pe_op op_add (pe_op op_modN (pe_callTy call_int1 (by rfl) T.int (by decide +kernel) (pa_cons (pv 2) pa_nil)) (pe_int)) (pe_op op_mul (pv 1) (pe_int))) (pe_int)) pa_nil)) (pe_int)))
        (pss_cons (ps_set (i := 4) sc_next.nd rfl (.inl rfl) (pe_op op_modN (pe_callTy call_int1 (by rfl) T.int (by decide +kernel) (pa_cons (pe_op op_add (pe_op op_add (pe_op op_mul (pv 3) (pv 3)) (pe_op op_mul (pv 1) (pe_int))) (pe_int)) pa_nil)) (pe_int)))
        (pss_cons (ps_set (i := 5) sc_next.nd rfl (.inl rfl) (pe_op op_modN (pe_callTy call_int1 (by rfl) T.int (by decide +kernel) (pa_cons (pe_op op_add (pe_op op_add (pe_op op_mul (pv 4) (pv 4)) (pv 3)) (pe_op op_mul (pe_op op_mul (pv 1) (pv 1)) (pe_int))) pa_nil)) (pe_int)))
        (pss_one (ps_ret (pe_op op_add (pe_op op_mul (pe_op op_add (pe_op op_mul (pv 5) (pe_int)) (pv 4)) (pe_int)) (pv 3)))))))))))), ?_⟩
    refine ⟨_, rfl, p, _, _, _, rfl, rfl, SqL.of L.hp, atI_nat (j := 1) rfl, ?_⟩
    refine ⟨_, rfl, _, _, rfl, rfl, _, rfl, p, _, _, 1, rfl, rfl, L.hp, rfl, ?_⟩
    refine ⟨_, rfl, _, _, rfl, rfl, .inr ⟨by decide, by decide⟩, _, _, rfl, rfl, ?_⟩
    have npa : a ≠ p := ne_of L.ha L.hp (by
      intro z
      have z' := HO.lst.inj z
      cases ns with
      | nil => cases z'
      | cons n r => cases z')
    have h1 : upd H p (.lst [.ref a, .int (i + 1), .int n]) p = some (.lst [.ref a, .int (i + 1), .int n]) := upd_same
    have ha : upd H p (.lst [.ref a, .int (i + 1), .int n]) a = some (.lst (ns.map V.int)) := by rw [upd_ne npa]; exact L.ha
    refine ⟨_, rfl, p, _, _, _, rfl, rfl, SqL.of h1, atI_nat (j := 0) rfl, by show 0 ≤ sizeLine; exact Nat.zero_le _, fun q hq => ?_⟩
    have sq : Same (upd H p (.lst [.ref a, .int (i + 1), .int n])) (upd (upd H p (.lst [.ref a, .int (i + 1), .int n])) q (.lst [])) := fun b o e => by rw [upd_ne (ne_of_none e hq)]; exact e
    have h1q := sq _ _ h1
    have haq := sq _ _ ha
    refine ⟨.list (ns.map PyData.int), .list [], .lst (SqL.of haq) (dp_ints ns), .lst (SqL.of upd_same) .nil, shaped_ints ns, by decide, _, rfl, ?_⟩
    have hP : (0 : Int) < 2147483587 := by decide
    have hP2 : (0 : Int) < 2147483563 := by decide
    have hP3 : (0 : Int) < 2147483549 := by decide
    have cut : ∀ {A B : Prop}, (ns ≠ [] → A) → (ns = [] → B) → if (!PyData.eqv (.list (ns.map PyData.int)) (.list [])) = true then A else B := by
      intro A B hA hB
      cases ns with
      | nil =>
        refine iteF ?_
        exact hB rfl
      | cons n r =>
        refine iteT ?_
        exact hA (by simp)
    have fin : ∀ (c : Int) (A : Prop), A → A := fun _ _ h => h
    refine cut (fun hns => ?_) (fun hns => ?_)
    · have hlen : 0 < ns.length := List.length_pos_iff.mpr hns
      have hL : (0 : Int) < (ns.length : Int) := by omega
      obtain ⟨v, hv, hat⟩ := at_some (l := ns.map V.int) (i := i.fmod ((ns.map V.int).length : Int)) (by rw [List.length_map]; exact fm_lo hL) (by rw [List.length_map]; exact fm_hi hL)
      obtain ⟨c, rfl⟩ : ∃ c, v = V.int c := by
        rw [List.getElem?_map] at hv
        cases e : ns[(i.fmod ((ns.map V.int).length : Int)).toNat]? with
        | none => rw [e] at hv; cases hv
        | some c => rw [e] at hv; exact ⟨c, (Option.some.inj hv).symm⟩
      refine ⟨_, rfl, p, _, _, _, rfl, rfl, SqL.of h1q, atI_nat (j := 0) rfl, _, rfl, .inl ⟨_, rfl, ?_⟩⟩
      refine ⟨_, rfl, p, _, _, _, rfl, rfl, SqL.of h1q, atI_nat (j := 0) rfl, a, _, rfl, .inl (SqL.of haq), _, _, rfl, rfl, by rw [List.length_map]; omega, ?_⟩
      refine ⟨a, _, _, _, rfl, rfl, SqL.of haq, hat, ?_⟩
      clear hv hat
      refine ⟨_, rfl, _, rfl, p, _, _, _, rfl, rfl, SqL.of h1q, atI_nat (j := 0) rfl, a, _, rfl, .inl (SqL.of haq), _, _, rfl, rfl, _, rfl, ?_⟩
      refine ite2 (fun hlt => ?_) (fun hlt => ?_)
      · refine ⟨_, rfl, _, _, rfl, rfl, ⟨by decide, by decide, by decide⟩, _, _, rfl, rfl, _, rfl, ?_⟩
        refine ite2 (fun hge => ?_) (fun hge => ?_)
        · refine ⟨_, rfl, k _ _ ?_ sq⟩
          have z : ((10 : Int) ^ (18 : Int).toNat) ≤ c := of_decide_eq_true hge
          exact Int.le_trans (by decide) z
        · refine ⟨_, rfl, .inl ⟨_, rfl, _, _, rfl, rfl, (by show (2147483587 : Int) ≠ 0; decide), _, rfl, _, _, rfl, rfl, .inr ⟨by decide, by decide⟩, _, _, rfl, rfl, _, _, rfl, rfl, .inl ⟨_, rfl, _, _, rfl, rfl, (by show (2147483587 : Int) ≠ 0; decide), ?_⟩⟩⟩
          have s0 := fm_lo (a := (c.fmod 2147483587 + i * 30103 + 79)) hP
          have s1 := fm_hi (a := (c.fmod 2147483587 + i * 30103 + 79)) hP
          refine ⟨_, rfl, _, rfl, _, _, rfl, rfl, .inl ⟨Int.lt_of_lt_of_le (by decide) s0, Int.lt_trans s1 (by decide)⟩, _, rfl, _, _, rfl, rfl, .inr ⟨by decide, by decide⟩, _, _, rfl, rfl, _, _, rfl, rfl, .inl ⟨_, rfl, _, _, rfl, rfl, (by show (2147483563 : Int) ≠ 0; decide), ?_⟩⟩
          have m0 := fm_lo (a := ((c.fmod 2147483587 + i * 30103 + 79).fmod 2147483587 * (c.fmod 2147483587 + i * 30103 + 79).fmod 2147483587 + i * 70039 + 61)) hP2
          have m1 := fm_hi (a := ((c.fmod 2147483587 + i * 30103 + 79).fmod 2147483587 * (c.fmod 2147483587 + i * 30103 + 79).fmod 2147483587 + i * 70039 + 61)) hP2
          refine ⟨_, rfl, _, rfl, _, _, rfl, rfl, .inl ⟨Int.lt_of_lt_of_le (by decide) m0, Int.lt_trans m1 (by decide)⟩, _, rfl, _, _, rfl, rfl, _, rfl, _, rfl, _, _, rfl, rfl, .inl ⟨by have := L.hi; omega, by omega⟩, _, _, rfl, rfl, .inr ⟨by decide, by decide⟩, _, _, rfl, rfl, .inl ⟨_, rfl, _, _, rfl, rfl, (by show (2147483549 : Int) ≠ 0; decide), ?_⟩⟩
          have h0 := fm_lo (a := (((c.fmod 2147483587 + i * 30103 + 79).fmod 2147483587 * (c.fmod 2147483587 + i * 30103 + 79).fmod 2147483587 + i * 70039 + 61).fmod 2147483563 * ((c.fmod 2147483587 + i * 30103 + 79).fmod 2147483587 * (c.fmod 2147483587 + i * 30103 + 79).fmod 2147483587 + i * 70039 + 61).fmod 2147483563 + (c.fmod 2147483587 + i * 30103 + 79).fmod 2147483587 + i * i * 37)) hP3
          refine ⟨_, rfl, _, _, rfl, rfl, .inr ⟨by decide, by decide⟩, _, rfl, _, _, rfl, rfl, _, _, rfl, rfl, .inr ⟨by decide, by decide⟩, _, rfl, _, _, rfl, rfl, k _ _ ?_ sq⟩
          exact Int.add_nonneg (Int.mul_nonneg (Int.add_nonneg (Int.mul_nonneg h0 (by decide)) m0) (by decide)) s0
      · refine ⟨_, rfl, .inl ⟨_, rfl, _, _, rfl, rfl, (by show (2147483587 : Int) ≠ 0; decide), _, rfl, _, _, rfl, rfl, .inr ⟨by decide, by decide⟩, _, _, rfl, rfl, _, _, rfl, rfl, .inl ⟨_, rfl, _, _, rfl, rfl, (by show (2147483587 : Int) ≠ 0; decide), ?_⟩⟩⟩
        have s0 := fm_lo (a := (c.fmod 2147483587 + i * 30103 + 79)) hP
        have s1 := fm_hi (a := (c.fmod 2147483587 + i * 30103 + 79)) hP
        refine ⟨_, rfl, _, rfl, _, _, rfl, rfl, .inl ⟨Int.lt_of_lt_of_le (by decide) s0, Int.lt_trans s1 (by decide)⟩, _, rfl, _, _, rfl, rfl, .inr ⟨by decide, by decide⟩, _, _, rfl, rfl, _, _, rfl, rfl, .inl ⟨_, rfl, _, _, rfl, rfl, (by show (2147483563 : Int) ≠ 0; decide), ?_⟩⟩
        have m0 := fm_lo (a := ((c.fmod 2147483587 + i * 30103 + 79).fmod 2147483587 * (c.fmod 2147483587 + i * 30103 + 79).fmod 2147483587 + i * 70039 + 61)) hP2
        have m1 := fm_hi (a := ((c.fmod 2147483587 + i * 30103 + 79).fmod 2147483587 * (c.fmod 2147483587 + i * 30103 + 79).fmod 2147483587 + i * 70039 + 61)) hP2
        refine ⟨_, rfl, _, rfl, _, _, rfl, rfl, .inl ⟨Int.lt_of_lt_of_le (by decide) m0, Int.lt_trans m1 (by decide)⟩, _, rfl, _, _, rfl, rfl, _, rfl, _, rfl, _, _, rfl, rfl, .inl ⟨by have := L.hi; omega, by omega⟩, _, _, rfl, rfl, .inr ⟨by decide, by decide⟩, _, _, rfl, rfl, .inl ⟨_, rfl, _, _, rfl, rfl, (by show (2147483549 : Int) ≠ 0; decide), ?_⟩⟩
        have h0 := fm_lo (a := (((c.fmod 2147483587 + i * 30103 + 79).fmod 2147483587 * (c.fmod 2147483587 + i * 30103 + 79).fmod 2147483587 + i * 70039 + 61).fmod 2147483563 * ((c.fmod 2147483587 + i * 30103 + 79).fmod 2147483587 * (c.fmod 2147483587 + i * 30103 + 79).fmod 2147483587 + i * 70039 + 61).fmod 2147483563 + (c.fmod 2147483587 + i * 30103 + 79).fmod 2147483587 + i * i * 37)) hP3
        refine ⟨_, rfl, _, _, rfl, rfl, .inr ⟨by decide, by decide⟩, _, rfl, _, _, rfl, rfl, _, _, rfl, rfl, .inr ⟨by decide, by decide⟩, _, rfl, _, _, rfl, rfl, k _ _ ?_ sq⟩
        exact Int.add_nonneg (Int.mul_nonneg (Int.add_nonneg (Int.mul_nonneg h0 (by decide)) m0) (by decide)) s0
    · refine ⟨_, rfl, _, rfl, p, _, _, _, rfl, rfl, SqL.of h1q, atI_nat (j := 0) rfl, a, _, rfl, .inl (SqL.of haq), _, _, rfl, rfl, _, rfl, ?_⟩
      refine ite2 (fun hlt => ?_) (fun hlt => ?_)
      · refine ⟨_, rfl, _, _, rfl, rfl, ⟨by decide, by decide, by decide⟩, _, _, rfl, rfl, _, rfl, ?_⟩
        refine ite2 (fun hge => ?_) (fun hge => ?_)
        · refine ⟨_, rfl, k _ _ ?_ sq⟩
          have z : ((10 : Int) ^ (18 : Int).toNat) ≤ i * 1051 + 53 := of_decide_eq_true hge
          exact Int.le_trans (by decide) z
        · refine ⟨_, rfl, .inl ⟨_, rfl, _, _, rfl, rfl, (by show (2147483587 : Int) ≠ 0; decide), _, rfl, _, _, rfl, rfl, .inr ⟨by decide, by decide⟩, _, _, rfl, rfl, _, _, rfl, rfl, .inl ⟨_, rfl, _, _, rfl, rfl, (by show (2147483587 : Int) ≠ 0; decide), ?_⟩⟩⟩
          have s0 := fm_lo (a := ((i * 1051 + 53).fmod 2147483587 + i * 30103 + 79)) hP
          have s1 := fm_hi (a := ((i * 1051 + 53).fmod 2147483587 + i * 30103 + 79)) hP
          refine ⟨_, rfl, _, rfl, _, _, rfl, rfl, .inl ⟨Int.lt_of_lt_of_le (by decide) s0, Int.lt_trans s1 (by decide)⟩, _, rfl, _, _, rfl, rfl, .inr ⟨by decide, by decide⟩, _, _, rfl, rfl, _, _, rfl, rfl, .inl ⟨_, rfl, _, _, rfl, rfl, (by show (2147483563 : Int) ≠ 0; decide), ?_⟩⟩
          have m0 := fm_lo (a := (((i * 1051 + 53).fmod 2147483587 + i * 30103 + 79).fmod 2147483587 * ((i * 1051 + 53).fmod 2147483587 + i * 30103 + 79).fmod 2147483587 + i * 70039 + 61)) hP2
          have m1 := fm_hi (a := (((i * 1051 + 53).fmod 2147483587 + i * 30103 + 79).fmod 2147483587 * ((i * 1051 + 53).fmod 2147483587 + i * 30103 + 79).fmod 2147483587 + i * 70039 + 61)) hP2
          refine ⟨_, rfl, _, rfl, _, _, rfl, rfl, .inl ⟨Int.lt_of_lt_of_le (by decide) m0, Int.lt_trans m1 (by decide)⟩, _, rfl, _, _, rfl, rfl, _, rfl, _, rfl, _, _, rfl, rfl, .inl ⟨by have := L.hi; omega, by omega⟩, _, _, rfl, rfl, .inr ⟨by decide, by decide⟩, _, _, rfl, rfl, .inl ⟨_, rfl, _, _, rfl, rfl, (by show (2147483549 : Int) ≠ 0; decide), ?_⟩⟩
          have h0 := fm_lo (a := ((((i * 1051 + 53).fmod 2147483587 + i * 30103 + 79).fmod 2147483587 * ((i * 1051 + 53).fmod 2147483587 + i * 30103 + 79).fmod 2147483587 + i * 70039 + 61).fmod 2147483563 * (((i * 1051 + 53).fmod 2147483587 + i * 30103 + 79).fmod 2147483587 * ((i * 1051 + 53).fmod 2147483587 + i * 30103 + 79).fmod 2147483587 + i * 70039 + 61).fmod 2147483563 + ((i * 1051 + 53).fmod 2147483587 + i * 30103 + 79).fmod 2147483587 + i * i * 37)) hP3
          refine ⟨_, rfl, _, _, rfl, rfl, .inr ⟨by decide, by decide⟩, _, rfl, _, _, rfl, rfl, _, _, rfl, rfl, .inr ⟨by decide, by decide⟩, _, rfl, _, _, rfl, rfl, k _ _ ?_ sq⟩
          exact Int.add_nonneg (Int.mul_nonneg (Int.add_nonneg (Int.mul_nonneg h0 (by decide)) m0) (by decide)) s0
      · refine ⟨_, rfl, .inl ⟨_, rfl, _, _, rfl, rfl, (by show (2147483587 : Int) ≠ 0; decide), _, rfl, _, _, rfl, rfl, .inr ⟨by decide, by decide⟩, _, _, rfl, rfl, _, _, rfl, rfl, .inl ⟨_, rfl, _, _, rfl, rfl, (by show (2147483587 : Int) ≠ 0; decide), ?_⟩⟩⟩
        have s0 := fm_lo (a := ((i * 1051 + 53).fmod 2147483587 + i * 30103 + 79)) hP
        have s1 := fm_hi (a := ((i * 1051 + 53).fmod 2147483587 + i * 30103 + 79)) hP
        refine ⟨_, rfl, _, rfl, _, _, rfl, rfl, .inl ⟨Int.lt_of_lt_of_le (by decide) s0, Int.lt_trans s1 (by decide)⟩, _, rfl, _, _, rfl, rfl, .inr ⟨by decide, by decide⟩, _, _, rfl, rfl, _, _, rfl, rfl, .inl ⟨_, rfl, _, _, rfl, rfl, (by show (2147483563 : Int) ≠ 0; decide), ?_⟩⟩
        have m0 := fm_lo (a := (((i * 1051 + 53).fmod 2147483587 + i * 30103 + 79).fmod 2147483587 * ((i * 1051 + 53).fmod 2147483587 + i * 30103 + 79).fmod 2147483587 + i * 70039 + 61)) hP2
        have m1 := fm_hi (a := (((i * 1051 + 53).fmod 2147483587 + i * 30103 + 79).fmod 2147483587 * ((i * 1051 + 53).fmod 2147483587 + i * 30103 + 79).fmod 2147483587 + i * 70039 + 61)) hP2
        refine ⟨_, rfl, _, rfl, _, _, rfl, rfl, .inl ⟨Int.lt_of_lt_of_le (by decide) m0, Int.lt_trans m1 (by decide)⟩, _, rfl, _, _, rfl, rfl, _, rfl, _, rfl, _, _, rfl, rfl, .inl ⟨by have := L.hi; omega, by omega⟩, _, _, rfl, rfl, .inr ⟨by decide, by decide⟩, _, _, rfl, rfl, .inl ⟨_, rfl, _, _, rfl, rfl, (by show (2147483549 : Int) ≠ 0; decide), ?_⟩⟩
        have h0 := fm_lo (a := ((((i * 1051 + 53).fmod 2147483587 + i * 30103 + 79).fmod 2147483587 * ((i * 1051 + 53).fmod 2147483587 + i * 30103 + 79).fmod 2147483587 + i * 70039 + 61).fmod 2147483563 * (((i * 1051 + 53).fmod 2147483587 + i * 30103 + 79).fmod 2147483587 * ((i * 1051 + 53).fmod 2147483587 + i * 30103 + 79).fmod 2147483587 + i * 70039 + 61).fmod 2147483563 + ((i * 1051 + 53).fmod 2147483587 + i * 30103 + 79).fmod 2147483587 + i * i * 37)) hP3
        refine ⟨_, rfl, _, _, rfl, rfl, .inr ⟨by decide, by decide⟩, _, rfl, _, _, rfl, rfl, _, _, rfl, rfl, .inr ⟨by decide, by decide⟩, _, rfl, _, _, rfl, rfl, k _ _ ?_ sq⟩
        exact Int.add_nonneg (Int.mul_nonneg (Int.add_nonneg (Int.mul_nonneg h0 (by decide)) m0) (by decide)) s0
theorem sc_draw : FnScope ["pen", "under", "digit"] ["pen", "under"] (defScope sDraw) := ⟨rfl, rfl, rfl, by decide +kernel, rfl, by decide +kernel, by decide +kernel⟩
theorem ok_draw {f fN : Addr} {fd fdN : FuncData} (F : Fun K "_law_draw" "_law_draw" sDraw f fd) (T : Blt mg) (GN : FnOk P w K mg base CX0 1 fN fdN ["pen"] spNext) (gN : mg "_law_next" = some (.ref fN)) (kN : PySem.W.keepIn K (.ref fN) = true) (bN : Binds K fdN ["pen"] []) :
    FnOk P w K mg base CX0 2 f fd ["pen", "under"] spDraw := by
  refine F.ok sc_draw (fun vs H Q E h => ?_) (fun cdv A outer s H vs Q E hr h => ?_)
  · obtain ⟨p, a, ns, i, n, u, rfl, _⟩ := h
    rfl
  · obtain ⟨p, a, ns, i, n, u, rfl, L, hi9, hu0, hu9, k⟩ := h
    refine ⟨_, (pss_cons (ps_if (pt_cmpR op_lt (pe_ix ix_list (pv 0) (pe_int) (fun _ _ => rfl)) (pv 1) (nomark _)) (pss_one (ps_asg (pe_call GN hr (by rfl) gN kN bN .nil pass0 (pa_cons (pv 0) pa_nil)) (pg_sub (pv 0) (pe_int) set_list))) pss_nil)
        (pss_cons (ps_set (i := 2) sc_draw.nd rfl (.inl rfl) (pe_op op_modN (pe_callTy call_int1 (by rfl) T.int (by decide +kernel) (pa_cons (pe_ix ix_list (pv 0) (pe_int) (fun _ _ => rfl)) pa_nil)) (pv 1)))
        (pss_cons (ps_asg (pe_op op_fdivN (pe_ix ix_list (pv 0) (pe_int) (fun _ _ => rfl)) (pv 1)) (pg_sub (pv 0) (pe_int) set_list))
        (pss_one (ps_ret (pv 2)))))), ?_⟩
    have fin : ∀ (i' n' : Int) (H1 : Hp), Pen H1 p a ns i' n' → i' ≤ i + 1 → (∀ b o, b ≠ p → H b = some o → H1 b = some o) → 0 < u → Q (.int (n'.fmod u)) (upd H1 p (.lst [.ref a, .int i', .int (n'.fdiv u)])) := by
      intro i' n' H1 L1 hi' same hu
      refine k _ i' (n'.fdiv u) _ (fm_lo hu) (fm_hi hu) ⟨upd_same, ?_, L1.len, L1.hi, fd_lo L1.hn hu⟩ hi' (fun b o hb e => by rw [upd_ne hb]; exact same b o hb e)
      rw [upd_ne (ne_of L1.ha L1.hp (by
        intro z
        have z' := HO.lst.inj z
        cases ns with
        | nil => cases z'
        | cons n r => cases z'))]
      exact L1.ha
    have npa : a ≠ p := ne_of L.ha L.hp (by
      intro z
      have z' := HO.lst.inj z
      cases ns with
      | nil => cases z'
      | cons n r => cases z')
    have un : u ≠ 0 := Int.ne_of_gt hu0
    have ub : u.natAbs < 1073741824 := by omega
    refine ⟨_, rfl, p, _, _, _, rfl, rfl, SqL.of L.hp, atI_nat (j := 2) rfl, _, rfl, _, _, rfl, rfl, _, rfl, ?_⟩
    refine ite2 (fun hlt => ?_) (fun hlt => ?_)
    · refine ⟨_, rfl, p, a, ns, i, n, rfl, L, hi9, fun r H1 hr0 s1 => ?_⟩
      have e1 := s1 _ _ upd_same
      have ea := s1 _ _ (by rw [upd_ne npa]; exact L.ha)
      refine ⟨_, rfl, p, _, _, 2, rfl, rfl, e1, rfl, ?_⟩
      have e2 : upd H1 p (.lst (([.ref a, .int (i + 1), .int n] : List V).set 2 (.int r))) p = some (.lst [.ref a, .int (i + 1), .int r]) := upd_same
      refine ⟨_, rfl, p, _, _, _, rfl, rfl, SqL.of e2, atI_nat (j := 2) rfl, .inl ⟨_, rfl, _, rfl, _, _, rfl, rfl, un, ?_⟩⟩
      refine ⟨_, rfl, p, _, _, _, rfl, rfl, SqL.of e2, atI_nat (j := 2) rfl, _, rfl, _, _, rfl, rfl, ⟨un, ub⟩, ?_⟩
      refine ⟨_, rfl, p, _, _, 2, rfl, rfl, e2, rfl, _, rfl, ?_⟩
      exact fin (i + 1) r _ ⟨e2, by rw [upd_ne npa]; exact ea, L.len, by have := L.hi; omega, hr0⟩ (Int.le_refl _) (fun b o hb e => by rw [upd_ne hb]; exact s1 _ _ (by rw [upd_ne hb]; exact e)) hu0
    · refine ⟨_, rfl, p, _, _, _, rfl, rfl, SqL.of L.hp, atI_nat (j := 2) rfl, .inl ⟨_, rfl, _, rfl, _, _, rfl, rfl, un, ?_⟩⟩
      refine ⟨_, rfl, p, _, _, _, rfl, rfl, SqL.of L.hp, atI_nat (j := 2) rfl, _, rfl, _, _, rfl, rfl, ⟨un, ub⟩, ?_⟩
      refine ⟨_, rfl, p, _, _, 2, rfl, rfl, L.hp, rfl, _, rfl, ?_⟩
      exact fin i n H L (by omega) (fun b o hb e => e) hu0
end
end Own
/-! The law's odd things. -/
namespace Own
open PySem PySem.Spec PyProof.Rows L2
/-- small data, quickly shown -/
def SmR (d : PyData) : Prop := okD d = true ∧ d.shown.length ≤ 100 ∧ d.depth ≤ 5
theorem SmR.ok {d : PyData} (h : SmR d) : OkR d := ⟨h.1, Nat.le_trans h.2.1 (by decide), Nat.le_trans h.2.2 (by decide)⟩
def signOk (c : Nat) : Bool := c == 40 || c == 41 || c == 44 || c == 32 || c == 45 || (decide (48 ≤ c) && decide (c ≤ 57))
/-- signs as those of a pair of ints -/
def likeP (l : List Nat) : Bool := l.all signOk && l.count 44 == 1 && l.count 32 == 1
theorem int_signs (i : Int) : ((Str.ofString (toString i)).cps.toList).all signOk = true := by
  rw [List.all_eq_true]
  intro c hc
  by_cases h : c ≠ 45 ∧ (c < 48 ∨ 57 < c)
  · exact absurd hc (int_text_free' c h i)
  · by_cases h2 : c = 45
    · subst h2
      rfl
    · have h3 : 48 ≤ c ∧ c ≤ 57 := by omega
      simp [signOk, h3.1, h3.2]
theorem int_no (i : Int) (c : Nat) (h : c ≠ 45 ∧ (c < 48 ∨ 57 < c)) : ((Str.ofString (toString i)).cps.toList).count c = 0 := List.count_eq_zero.mpr (int_text_free' c h i)
theorem pair_like (t k : Int) : likeP (PyData.tuple [.int t, .int k]).shown.cps.toList = true := by
  rw [pair_cps]
  unfold likeP
  simp only [List.all_cons, List.all_append, int_signs, List.count_cons, List.count_append, int_no t 44 ⟨by decide, .inl (by decide)⟩, int_no k 44 ⟨by decide, .inl (by decide)⟩, int_no t 32 ⟨by decide, .inl (by decide)⟩, int_no k 32 ⟨by decide, .inl (by decide)⟩]
  decide
def GoodD (d : PyData) : Prop := SmR d ∧ SpotD d
theorem len_codes {z : Str} {l : List Nat} (h : z.cps.toList = l) : z.length = l.length := by
  rw [← h, Array.length_toList]
  rfl
theorem good_of {d : PyData} {l : List Nat} (h : d.shown.cps.toList = l) (h1 : l.length ≤ 100) (h2 : okD d = true) (h3 : d.depth ≤ 5) (h4 : likeP l = false) : GoodD d :=
  ⟨⟨h2, by rw [len_codes h]; exact h1, h3⟩, fun t k e => by
    have z := pair_like t k
    rw [← e, h, h4] at z
    cases z⟩
theorem good_pair {t k : Int} {l : List Nat} (h : (PyData.tuple [.int t, .int k]).shown.cps.toList = l) (h1 : l.length ≤ 100) (h2 : okD (.tuple [.int t, .int k]) = true) (h3 : (PyData.tuple [.int t, .int k]).depth ≤ 5) : GoodD (.tuple [.int t, .int k]) :=
  ⟨⟨h2, by rw [len_codes h]; exact h1, h3⟩, spotD_pair t k⟩
def AllG : List PyData → Prop
  | [] => True
  | d :: r => GoodD d ∧ AllG r
theorem AllG.get : ∀ {l : List PyData} {i : Nat} {d : PyData}, AllG l → l[i]? = some d → GoodD d
  | _ :: _, 0, _, ⟨h, _⟩, e => by cases e; exact h
  | _ :: _, i + 1, _, ⟨_, h⟩, e => AllG.get h ((List.getElem?_cons_succ ..).symm.trans e)
theorem AllG.app : ∀ {l r : List PyData}, AllG l → AllG r → AllG (l ++ r)
  | [], _, _, h => h
  | _ :: _, _, ⟨a, b⟩, h => ⟨a, AllG.app b h⟩
theorem DvAll.snoc {K : PySem.W.Frag} {H : Hp} {v : V} {d : PyData} (h : Dv K H v d) : ∀ {vs : List V} {ds : List PyData}, DvAll K H vs ds → DvAll K H (vs ++ [v]) (ds ++ [d])
  | _, _, .nil => .cons h .nil
  | _, _, .cons a b => .cons a (DvAll.snoc h b)
theorem DvAll.app {K : PySem.W.Frag} {H : Hp} : ∀ {vs us : List V} {ds es : List PyData}, DvAll K H vs ds → DvAll K H us es → DvAll K H (vs ++ us) (ds ++ es)
  | _, _, _, _, .nil, h => h
  | _, _, _, _, .cons a b, h => .cons a (DvAll.app b h)
theorem sm_int {i : Int} (h0 : -100000 ≤ i) (h9 : i ≤ 100000) : SmR (.int i) := ⟨ok_intZ h0 h9, Nat.le_trans (PyData.shown_int_le2 (by omega) (by omega)) (by decide), by simp [PyData.depth]⟩
theorem list_len (ts : List Str) (h : ∀ t ∈ ts, t.length ≤ 100) : (Str.join ", " ts).length ≤ 102 * ts.length := by
  by_cases e : ts = []
  · subst e
    decide
  · have z := join_length_add ts e
    have p : ∀ us : List Str, (∀ t ∈ us, t.length ≤ 100) → piled us ≤ 102 * us.length := by
      intro us
      induction us with
      | nil => intro _; simp [piled]
      | cons u r ih =>
        intro hu
        have h1 := hu u List.mem_cons_self
        have h2 := ih fun t ht => hu t (List.mem_cons_of_mem _ ht)
        rw [piled_cons, List.length_cons]
        omega
    have z2 := p ts h
    omega
theorem sm_pair {x y : Int} (x0 : -100000 ≤ x) (x9 : x ≤ 100000) (y0 : -100000 ≤ y) (y9 : y ≤ 100000) : SmR (.tuple [.int x, .int y]) := by
  have lx := PyData.shown_int_le2 (i := x) (by omega) (by omega)
  have ly := PyData.shown_int_le2 (i := y) (by omega) (by omega)
  refine ⟨(ok_pairZ x0 x9 y0 y9).1, ?_, by simp [PyData.depth, PyData.depthAll]⟩
  rw [len_codes (pair_cps x y)]
  rw [PyData.shown_int] at lx ly
  have ex : (Str.ofString (toString x)).cps.toList.length ≤ 13 := lx
  have ey : (Str.ofString (toString y)).cps.toList.length ≤ 13 := ly
  simp only [List.length_cons, List.length_append, List.length_nil]
  omega
theorem seen_ok {a b c d e : PyData} (ha : SmR a) (hb : SmR b) (hc : SmR c) (hd : SmR d) (he : SmR e) : OkR (.list [a, b, c, d, e]) := by
  refine ⟨?_, ?_, ?_⟩
  · simp only [okD, okAll, ha.1, hb.1, hc.1, hd.1, he.1, Bool.and_self]
  · have e1 : (PyData.list [a, b, c, d, e]).shown = ("[" : Str) ++ Str.join ", " (PyData.shownAll [a, b, c, d, e]) ++ "]" := PyData.shown_list _
    rw [e1, strLen_append, strLen_append]
    have z := list_len (PyData.shownAll [a, b, c, d, e]) (fun t ht => by
      simp only [PyData.shownAll, List.mem_cons, List.not_mem_nil, or_false] at ht
      rcases ht with rfl | rfl | rfl | rfl | rfl
      · exact ha.2.1
      · exact hb.2.1
      · exact hc.2.1
      · exact hd.2.1
      · exact he.2.1)
    simp only [PyData.shownAll, List.length_cons, List.length_nil] at z ⊢
    have e2 : (Str.ofString "[").length = 1 := rfl
    have e3 : (Str.ofString "]").length = 1 := rfl
    exact Nat.le_trans (show _ ≤ 1000 by omega) (by decide)
  · have h1 := ha.2.2
    have h2 := hb.2.2
    have h3 := hc.2.2
    have h4 := hd.2.2
    have h5 := he.2.2
    simp only [PyData.depth, PyData.depthAll]
    omega
def oddA : List PyData := [.none, .bool true, .bool false, .int (-1), .int 5, .int 6, .int 31, .int 32, .int (10 ^ 39), .str "0", .str "", .tuple [], .list [], .dict [], .tuple [.int 0], .list [.int 0], .tuple [.bool true], .tuple [.int 0, .bool false], .tuple [.int 1, .int 1]]
theorem odc0 : (PyData.none).shown.cps.toList = [78, 111, 110, 101] := by
  simp only [PyData.shown, PyData.shownAll, PyData.shownKv]
  decide +kernel
theorem odg0 : GoodD (.none) := good_of odc0 (by decide) (by decide +kernel) (by decide +kernel) (by decide)
theorem odc1 : (PyData.bool true).shown.cps.toList = [84, 114, 117, 101] := by
  simp only [PyData.shown, PyData.shownAll, PyData.shownKv]
  decide +kernel
theorem odg1 : GoodD (.bool true) := good_of odc1 (by decide) (by decide +kernel) (by decide +kernel) (by decide)
theorem odc2 : (PyData.bool false).shown.cps.toList = [70, 97, 108, 115, 101] := by
  simp only [PyData.shown, PyData.shownAll, PyData.shownKv]
  decide +kernel
theorem odg2 : GoodD (.bool false) := good_of odc2 (by decide) (by decide +kernel) (by decide +kernel) (by decide)
theorem odc3 : (PyData.int (-1)).shown.cps.toList = [45, 49] := by
  simp only [PyData.shown, PyData.shownAll, PyData.shownKv]
  decide +kernel
theorem odg3 : GoodD (.int (-1)) := good_of odc3 (by decide) (by decide +kernel) (by decide +kernel) (by decide)
theorem odc4 : (PyData.int 5).shown.cps.toList = [53] := by
  simp only [PyData.shown, PyData.shownAll, PyData.shownKv]
  decide +kernel
theorem odg4 : GoodD (.int 5) := good_of odc4 (by decide) (by decide +kernel) (by decide +kernel) (by decide)
theorem odc5 : (PyData.int 6).shown.cps.toList = [54] := by
  simp only [PyData.shown, PyData.shownAll, PyData.shownKv]
  decide +kernel
theorem odg5 : GoodD (.int 6) := good_of odc5 (by decide) (by decide +kernel) (by decide +kernel) (by decide)
theorem odc6 : (PyData.int 31).shown.cps.toList = [51, 49] := by
  simp only [PyData.shown, PyData.shownAll, PyData.shownKv]
  decide +kernel
theorem odg6 : GoodD (.int 31) := good_of odc6 (by decide) (by decide +kernel) (by decide +kernel) (by decide)
theorem odc7 : (PyData.int 32).shown.cps.toList = [51, 50] := by
  simp only [PyData.shown, PyData.shownAll, PyData.shownKv]
  decide +kernel
theorem odg7 : GoodD (.int 32) := good_of odc7 (by decide) (by decide +kernel) (by decide +kernel) (by decide)
theorem odc8 : (PyData.int (10 ^ 39)).shown.cps.toList = [49, 48, 48, 48, 48, 48, 48, 48, 48, 48, 48, 48, 48, 48, 48, 48, 48, 48, 48, 48, 48, 48, 48, 48, 48, 48, 48, 48, 48, 48, 48, 48, 48, 48, 48, 48, 48, 48, 48, 48] := by
  simp only [PyData.shown, PyData.shownAll, PyData.shownKv]
  decide +kernel
theorem odg8 : GoodD (.int (10 ^ 39)) := good_of odc8 (by decide) (by decide +kernel) (by decide +kernel) (by decide)
theorem odc9 : (PyData.str "0").shown.cps.toList = [39, 48, 39] := by
  simp only [PyData.shown, PyData.shownAll, PyData.shownKv]
  decide +kernel
theorem odg9 : GoodD (.str "0") := good_of odc9 (by decide) (by decide +kernel) (by decide +kernel) (by decide)
theorem odc10 : (PyData.str "").shown.cps.toList = [39, 39] := by
  simp only [PyData.shown, PyData.shownAll, PyData.shownKv]
  decide +kernel
theorem odg10 : GoodD (.str "") := good_of odc10 (by decide) (by decide +kernel) (by decide +kernel) (by decide)
theorem odc11 : (PyData.tuple []).shown.cps.toList = [40, 41] := by
  simp only [PyData.shown, PyData.shownAll, PyData.shownKv]
  decide +kernel
theorem odg11 : GoodD (.tuple []) := good_of odc11 (by decide) (by decide +kernel) (by decide +kernel) (by decide)
theorem odc12 : (PyData.list []).shown.cps.toList = [91, 93] := by
  simp only [PyData.shown, PyData.shownAll, PyData.shownKv]
  decide +kernel
theorem odg12 : GoodD (.list []) := good_of odc12 (by decide) (by decide +kernel) (by decide +kernel) (by decide)
theorem odc13 : (PyData.dict []).shown.cps.toList = [123, 125] := by
  simp only [PyData.shown, PyData.shownAll, PyData.shownKv]
  decide +kernel
theorem odg13 : GoodD (.dict []) := good_of odc13 (by decide) (by decide +kernel) (by decide +kernel) (by decide)
theorem odc14 : (PyData.tuple [.int 0]).shown.cps.toList = [40, 48, 44, 41] := by
  simp only [PyData.shown, PyData.shownAll, PyData.shownKv]
  decide +kernel
theorem odg14 : GoodD (.tuple [.int 0]) := good_of odc14 (by decide) (by decide +kernel) (by decide +kernel) (by decide)
theorem odc15 : (PyData.list [.int 0]).shown.cps.toList = [91, 48, 93] := by
  simp only [PyData.shown, PyData.shownAll, PyData.shownKv]
  decide +kernel
theorem odg15 : GoodD (.list [.int 0]) := good_of odc15 (by decide) (by decide +kernel) (by decide +kernel) (by decide)
theorem odc16 : (PyData.tuple [.bool true]).shown.cps.toList = [40, 84, 114, 117, 101, 44, 41] := by
  simp only [PyData.shown, PyData.shownAll, PyData.shownKv]
  decide +kernel
theorem odg16 : GoodD (.tuple [.bool true]) := good_of odc16 (by decide) (by decide +kernel) (by decide +kernel) (by decide)
theorem odc17 : (PyData.tuple [.int 0, .bool false]).shown.cps.toList = [40, 48, 44, 32, 70, 97, 108, 115, 101, 41] := by
  simp only [PyData.shown, PyData.shownAll, PyData.shownKv]
  decide +kernel
theorem odg17 : GoodD (.tuple [.int 0, .bool false]) := good_of odc17 (by decide) (by decide +kernel) (by decide +kernel) (by decide)
theorem odc18 : (PyData.tuple [.int 1, .int 1]).shown.cps.toList = [40, 49, 44, 32, 49, 41] := by
  simp only [PyData.shown, PyData.shownAll, PyData.shownKv]
  decide +kernel
theorem odg18 : GoodD (.tuple [.int 1, .int 1]) := good_pair odc18 (by decide) (by decide +kernel) (by decide +kernel)
theorem oddA_good : AllG oddA := ⟨odg0, odg1, odg2, odg3, odg4, odg5, odg6, odg7, odg8, odg9, odg10, odg11, odg12, odg13, odg14, odg15, odg16, odg17, odg18, trivial⟩
def oddB : List PyData := [.tuple [.int 0, .int 1, .int 2], .tuple [.int 6], .tuple [.int 0, .int 6], .tuple [.int (-1)], .tuple [.tuple [.int 0]], .tuple [.str "0"], .list [.int 0, .int 1], .tuple [.int 0, .int 0], .tuple [.int 0, .int 1], .tuple [.int 1, .int 0], .tuple [.int 2, .int 0], .tuple [.int 0, .none]]
theorem odc19 : (PyData.tuple [.int 0, .int 1, .int 2]).shown.cps.toList = [40, 48, 44, 32, 49, 44, 32, 50, 41] := by
  simp only [PyData.shown, PyData.shownAll, PyData.shownKv]
  decide +kernel
theorem odg19 : GoodD (.tuple [.int 0, .int 1, .int 2]) := good_of odc19 (by decide) (by decide +kernel) (by decide +kernel) (by decide)
theorem odc20 : (PyData.tuple [.int 6]).shown.cps.toList = [40, 54, 44, 41] := by
  simp only [PyData.shown, PyData.shownAll, PyData.shownKv]
  decide +kernel
theorem odg20 : GoodD (.tuple [.int 6]) := good_of odc20 (by decide) (by decide +kernel) (by decide +kernel) (by decide)
theorem odc21 : (PyData.tuple [.int 0, .int 6]).shown.cps.toList = [40, 48, 44, 32, 54, 41] := by
  simp only [PyData.shown, PyData.shownAll, PyData.shownKv]
  decide +kernel
theorem odg21 : GoodD (.tuple [.int 0, .int 6]) := good_pair odc21 (by decide) (by decide +kernel) (by decide +kernel)
theorem odc22 : (PyData.tuple [.int (-1)]).shown.cps.toList = [40, 45, 49, 44, 41] := by
  simp only [PyData.shown, PyData.shownAll, PyData.shownKv]
  decide +kernel
theorem odg22 : GoodD (.tuple [.int (-1)]) := good_of odc22 (by decide) (by decide +kernel) (by decide +kernel) (by decide)
theorem odc23 : (PyData.tuple [.tuple [.int 0]]).shown.cps.toList = [40, 40, 48, 44, 41, 44, 41] := by
  simp only [PyData.shown, PyData.shownAll, PyData.shownKv]
  decide +kernel
theorem odg23 : GoodD (.tuple [.tuple [.int 0]]) := good_of odc23 (by decide) (by decide +kernel) (by decide +kernel) (by decide)
theorem odc24 : (PyData.tuple [.str "0"]).shown.cps.toList = [40, 39, 48, 39, 44, 41] := by
  simp only [PyData.shown, PyData.shownAll, PyData.shownKv]
  decide +kernel
theorem odg24 : GoodD (.tuple [.str "0"]) := good_of odc24 (by decide) (by decide +kernel) (by decide +kernel) (by decide)
theorem odc25 : (PyData.list [.int 0, .int 1]).shown.cps.toList = [91, 48, 44, 32, 49, 93] := by
  simp only [PyData.shown, PyData.shownAll, PyData.shownKv]
  decide +kernel
theorem odg25 : GoodD (.list [.int 0, .int 1]) := good_of odc25 (by decide) (by decide +kernel) (by decide +kernel) (by decide)
theorem odc26 : (PyData.tuple [.int 0, .int 0]).shown.cps.toList = [40, 48, 44, 32, 48, 41] := by
  simp only [PyData.shown, PyData.shownAll, PyData.shownKv]
  decide +kernel
theorem odg26 : GoodD (.tuple [.int 0, .int 0]) := good_pair odc26 (by decide) (by decide +kernel) (by decide +kernel)
theorem odc27 : (PyData.tuple [.int 0, .int 1]).shown.cps.toList = [40, 48, 44, 32, 49, 41] := by
  simp only [PyData.shown, PyData.shownAll, PyData.shownKv]
  decide +kernel
theorem odg27 : GoodD (.tuple [.int 0, .int 1]) := good_pair odc27 (by decide) (by decide +kernel) (by decide +kernel)
theorem odc28 : (PyData.tuple [.int 1, .int 0]).shown.cps.toList = [40, 49, 44, 32, 48, 41] := by
  simp only [PyData.shown, PyData.shownAll, PyData.shownKv]
  decide +kernel
theorem odg28 : GoodD (.tuple [.int 1, .int 0]) := good_pair odc28 (by decide) (by decide +kernel) (by decide +kernel)
theorem odc29 : (PyData.tuple [.int 2, .int 0]).shown.cps.toList = [40, 50, 44, 32, 48, 41] := by
  simp only [PyData.shown, PyData.shownAll, PyData.shownKv]
  decide +kernel
theorem odg29 : GoodD (.tuple [.int 2, .int 0]) := good_pair odc29 (by decide) (by decide +kernel) (by decide +kernel)
theorem odc30 : (PyData.tuple [.int 0, .none]).shown.cps.toList = [40, 48, 44, 32, 78, 111, 110, 101, 41] := by
  simp only [PyData.shown, PyData.shownAll, PyData.shownKv]
  decide +kernel
theorem odg30 : GoodD (.tuple [.int 0, .none]) := good_of odc30 (by decide) (by decide +kernel) (by decide +kernel) (by decide)
theorem oddB_good : AllG oddB := ⟨odg19, odg20, odg21, odg22, odg23, odg24, odg25, odg26, odg27, odg28, odg29, odg30, trivial⟩
def oddC : List PyData := [.dict [(.int 0, .int 1)], .tuple [.int 0, .int 32], .tuple [.int 1, .int 31], .tuple [.none, .int 0], .tuple [.bool true, .int 0], .tuple [.bool false, .int 0], .tuple [.bool true, .int 2], .tuple [.bool false, .int 3], .tuple [.bool false]]
theorem odc31 : (PyData.dict [(.int 0, .int 1)]).shown.cps.toList = [123, 48, 58, 32, 49, 125] := by
  simp only [PyData.shown, PyData.shownAll, PyData.shownKv]
  decide +kernel
theorem odg31 : GoodD (.dict [(.int 0, .int 1)]) := good_of odc31 (by decide) (by decide +kernel) (by decide +kernel) (by decide)
theorem odc32 : (PyData.tuple [.int 0, .int 32]).shown.cps.toList = [40, 48, 44, 32, 51, 50, 41] := by
  simp only [PyData.shown, PyData.shownAll, PyData.shownKv]
  decide +kernel
theorem odg32 : GoodD (.tuple [.int 0, .int 32]) := good_pair odc32 (by decide) (by decide +kernel) (by decide +kernel)
theorem odc33 : (PyData.tuple [.int 1, .int 31]).shown.cps.toList = [40, 49, 44, 32, 51, 49, 41] := by
  simp only [PyData.shown, PyData.shownAll, PyData.shownKv]
  decide +kernel
theorem odg33 : GoodD (.tuple [.int 1, .int 31]) := good_pair odc33 (by decide) (by decide +kernel) (by decide +kernel)
theorem odc34 : (PyData.tuple [.none, .int 0]).shown.cps.toList = [40, 78, 111, 110, 101, 44, 32, 48, 41] := by
  simp only [PyData.shown, PyData.shownAll, PyData.shownKv]
  decide +kernel
theorem odg34 : GoodD (.tuple [.none, .int 0]) := good_of odc34 (by decide) (by decide +kernel) (by decide +kernel) (by decide)
theorem odc35 : (PyData.tuple [.bool true, .int 0]).shown.cps.toList = [40, 84, 114, 117, 101, 44, 32, 48, 41] := by
  simp only [PyData.shown, PyData.shownAll, PyData.shownKv]
  decide +kernel
theorem odg35 : GoodD (.tuple [.bool true, .int 0]) := good_of odc35 (by decide) (by decide +kernel) (by decide +kernel) (by decide)
theorem odc36 : (PyData.tuple [.bool false, .int 0]).shown.cps.toList = [40, 70, 97, 108, 115, 101, 44, 32, 48, 41] := by
  simp only [PyData.shown, PyData.shownAll, PyData.shownKv]
  decide +kernel
theorem odg36 : GoodD (.tuple [.bool false, .int 0]) := good_of odc36 (by decide) (by decide +kernel) (by decide +kernel) (by decide)
theorem odc37 : (PyData.tuple [.bool true, .int 2]).shown.cps.toList = [40, 84, 114, 117, 101, 44, 32, 50, 41] := by
  simp only [PyData.shown, PyData.shownAll, PyData.shownKv]
  decide +kernel
theorem odg37 : GoodD (.tuple [.bool true, .int 2]) := good_of odc37 (by decide) (by decide +kernel) (by decide +kernel) (by decide)
theorem odc38 : (PyData.tuple [.bool false, .int 3]).shown.cps.toList = [40, 70, 97, 108, 115, 101, 44, 32, 51, 41] := by
  simp only [PyData.shown, PyData.shownAll, PyData.shownKv]
  decide +kernel
theorem odg38 : GoodD (.tuple [.bool false, .int 3]) := good_of odc38 (by decide) (by decide +kernel) (by decide +kernel) (by decide)
theorem odc39 : (PyData.tuple [.bool false]).shown.cps.toList = [40, 70, 97, 108, 115, 101, 44, 41] := by
  simp only [PyData.shown, PyData.shownAll, PyData.shownKv]
  decide +kernel
theorem odg39 : GoodD (.tuple [.bool false]) := good_of odc39 (by decide) (by decide +kernel) (by decide +kernel) (by decide)
theorem oddC_good : AllG oddC := ⟨odg31, odg32, odg33, odg34, odg35, odg36, odg37, odg38, odg39, trivial⟩
def oddD : List PyData := (oddA ++ oddB) ++ oddC
theorem odd_good : AllG oddD := (oddA_good.app oddB_good).app oddC_good
theorem odd_len : oddD.length = 40 := rfl
end Own
/-! The law. -/
namespace Own
open PySem PySem.Spec PyProof.Rows L2
abbrev sLw : Stmt := top1 36
/-- a heap without what stands at p -/
def wo (p : Addr) (H : Hp) : Hp := fun b => if b = p then none else H b
theorem wo_at {p b : Addr} {H : Hp} (h : b ≠ p) : wo p H b = H b := if_neg h
theorem wo_some {p b : Addr} {H : Hp} {o : HO} (h : wo p H b = some o) : b ≠ p ∧ H b = some o := by
  by_cases e : b = p
  · have z : wo p H b = none := if_pos e
    rw [z] at h
    cases h
  · exact ⟨e, (wo_at e).symm.trans h⟩
theorem wo_le {p : Addr} {H : Hp} : Same (wo p H) H := fun b o h => (wo_some h).2
theorem wo_keep {p : Addr} {H H' : Hp} (k : ∀ b o, b ≠ p → H b = some o → H' b = some o) : Same (wo p H) (wo p H') := fun b o h => by
  obtain ⟨h1, h2⟩ := wo_some h
  rw [wo_at h1]
  exact k b o h1 h2
theorem wo_same {p : Addr} {H H' : Hp} (s : Same H H') : Same (wo p H) (wo p H') := wo_keep fun b o _ h => s b o h
theorem wo_ext {p : Addr} {H H' : Hp} (s : LamX.ExtN H H') : LamX.ExtN (wo p H) (wo p H') := fun b o h n => by
  obtain ⟨h1, h2⟩ := wo_some h
  rw [wo_at h1]
  exact s b o h2 n
theorem stepN {p q : Addr} {H : Hp} {x o : HO} (hp : H p = some x) (hq : H q = none) : Same (wo p H) (wo p (upd H q o)) ∧ wo p (upd H q o) q = some o := by
  have n : q ≠ p := fun z => by rw [z, hp] at hq; cases hq
  exact ⟨wo_same (sameN hq), by rw [wo_at n, upd_same]⟩
theorem Pen.same {H H' : Hp} {p a : Addr} {ns : List Int} {i n : Int} (L : Pen H p a ns i n) (s : Same H H') : Pen H' p a ns i n := ⟨s _ _ L.hp, s _ _ L.ha, L.len, L.hi, L.hn⟩
theorem Pen.ext {H H' : Hp} {p a : Addr} {ns : List Int} {i n : Int} (L : Pen H p a ns i n) (s : LamX.ExtN H H') : Pen H' p a ns i n := ⟨s _ _ L.hp (fun _ z => nomatch z), s _ _ L.ha (fun _ z => nomatch z), L.len, L.hi, L.hn⟩
theorem tabs_wo {TT : List (Addr × Str)} {H : Hp} {p : Addr} {xs : List V} (hp : H p = some (.lst xs)) (t : LamX.Tabs TT H) : LamX.Tabs TT (wo p H) := fun q hq => by
  obtain ⟨ps, h1, h2, h3⟩ := t q hq
  refine ⟨ps, ?_, h2, fun pos cv hc => ?_⟩
  · rw [wo_at (ne_of h1 hp (fun z => nomatch z))]
    exact h1
  · obtain ⟨c, e1, e2⟩ := h3 pos cv hc
    refine ⟨c, e1, ?_⟩
    rw [wo_at (ne_of e2 hp (fun z => by have z' : HO.ext _ = HO.lst xs := z; cases z'))]
    exact e2
theorem tabs_le {TT : List (Addr × Str)} {H : Hp} {p : Addr} (t : LamX.Tabs TT (wo p H)) : LamX.Tabs TT H := t.ext wo_le
theorem passNo {X : Cx} : Passes (L2.CX X.prog X.w) X (fun _ _ _ => False) := fun _ _ _ _ _ _ _ h => by
  obtain ⟨_, _, _, _, _, _, _, _, _, _, _, _, z⟩ := h
  exact z.elim
/-- a list of data, kept -/
structure LD (K : PySem.W.Frag) (H : Hp) (o : Addr) (ds : List PyData) : Prop where
  ex : ∃ vs, H o = some (.lst vs) ∧ DvAll K H vs ds
theorem LD.step {K : PySem.W.Frag} {H H' : Hp} {o : Addr} {ds : List PyData} (h : LD K H o ds) (s : Same H H') : LD K H' o ds := by
  obtain ⟨vs, h1, h2⟩ := h.ex
  exact ⟨vs, s _ _ h1, h2.same s⟩
theorem LD.ext {K : PySem.W.Frag} {H H' : Hp} {o : Addr} {ds : List PyData} (h : LD K H o ds) (s : LamX.ExtN H H') : LD K H' o ds := by
  obtain ⟨vs, h1, h2⟩ := h.ex
  exact ⟨vs, s _ _ h1 (fun _ z => nomatch z), h2.extN s⟩
section
variable {P : Program} {w : World} {K : PySem.W.Frag} {mg : Str → Option Value} {base : Heap}
theorem sc_lw : FnScope ["script", "pen", "odd", "figure", "found", "turn", "code", "gone", "spot", "wide", "seen", "number"] ["script"] (defScope sLw) := ⟨rfl, rfl, rfl, by decide +kernel, rfl, by decide +kernel, by decide +kernel⟩

def rowT (n : Nat) : List V := (List.replicate n true).map V.bl
theorem rowT_more (n : Nat) : rowT (n + 1) = rowT n ++ [V.bl true] := by
  unfold rowT
  rw [List.replicate_succ', List.map_append]
  rfl
def smV : V → Bool
  | .int n => decide (-100000 ≤ n) && decide (n ≤ 100000)
  | _ => false
theorem smV_some {v : V} (h : smV v = true) : ∃ n, v = .int n ∧ -100000 ≤ n ∧ n ≤ 100000 := by
  cases v with
  | int n =>
    have h' : (decide (-100000 ≤ n) && decide (n ≤ 100000)) = true := h
    rw [Bool.and_eq_true, decide_eq_true_iff, decide_eq_true_iff] at h'
    exact ⟨n, rfl, h'.1, h'.2⟩
  | _ => cases h
theorem lay_pairs : ∀ r : List (Int × Int), PyData.canLayAll0 (r.map fun k => .tuple [.int k.1, .int k.2]) = true
  | [] => rfl
  | n :: r => by
    have h := lay_pairs r
    simp only [List.map_cons, PyData.canLayAll0, PyData.canLay0, h, Bool.and_self]
theorem deep_pairs : ∀ r : List (Int × Int), PyData.depthAll (r.map fun k => PyData.tuple [.int k.1, .int k.2]) ≤ 1
  | [] => by simp [PyData.depthAll]
  | n :: r => by
    have h := deep_pairs r
    simp only [List.map_cons, PyData.depthAll, PyData.depth]
    omega
theorem shaped_spots (ws : List PyData) : SeqAt.shaped (.list (spotsD ws)) = true := by
  unfold SeqAt.shaped spotsD
  have h := deep_pairs (spotsTo ws ws.length)
  have h2 : (PyData.list ((spotsTo ws ws.length).map fun k => PyData.tuple [.int k.1, .int k.2])).depth ≤ 64 := by
    simp only [PyData.depth]
    exact Nat.le_trans (Nat.succ_le_succ h) (by decide)
  rw [decide_eq_true h2, Bool.and_true]
  simp only [PyData.canLay0, lay_pairs]
theorem SpotsAt.dp {K : PySem.W.Frag} {H : Hp} : ∀ {vs : List V} {r : List (Int × Int)}, SpotsAt H vs r → DpAll K H vs (r.map fun k => .tuple [.int k.1, .int k.2])
  | [], [], _ => .nil
  | _ :: _, _ :: _, ⟨⟨p, e, h⟩, b⟩ => .cons (by rw [e]; exact .tup (SqT.of h) (.cons (.int _) (.cons (.int _) .nil))) (SpotsAt.dp b)
  | [], _ :: _, z => z.elim
  | _ :: _, [], z => z.elim
theorem sqL_extN {K : PySem.W.Frag} {H H' : Hp} {a : Addr} {xs : List V} (s : LamX.ExtN H H') (h : SqL K H a xs) : SqL K H' a xs := by
  rcases h with (h | ⟨o, h⟩) | h
  · exact .inl (.inl (s _ _ h fun ps z => nomatch z))
  · exact .inl (.inr ⟨o, s _ _ h fun ps z => nomatch z⟩)
  · exact .inr h
/-- what stands fast between the draws -/
structure Std (K : PySem.W.Frag) (TT : List (Addr × Str)) (p l o : Addr) (ms : List Int) (i : Int) (H : Hp) : Prop where
  pen : ∃ n, Pen H p l ms i n
  tabs : LamX.Tabs TT (wo p H)
  odd : LD K (wo p H) o oddD
theorem Std.same {K : PySem.W.Frag} {TT : List (Addr × Str)} {p l o : Addr} {ms : List Int} {i : Int} {H H' : Hp} (S : Std K TT p l o ms i H) (s : Same H H') : Std K TT p l o ms i H' := by
  obtain ⟨n, L⟩ := S.pen
  exact ⟨⟨n, L.same s⟩, S.tabs.ext (wo_same s), S.odd.step (wo_same s)⟩
theorem Std.ext {K : PySem.W.Frag} {TT : List (Addr × Str)} {p l o : Addr} {ms : List Int} {i : Int} {H H' : Hp} (S : Std K TT p l o ms i H) (s : LamX.ExtN H H') (t : LamX.Tabs TT H') : Std K TT p l o ms i H' := by
  obtain ⟨n, L⟩ := S.pen
  exact ⟨⟨n, L.ext s⟩, tabs_wo (L.ext s).hp t, S.odd.ext (wo_ext s)⟩
theorem Std.draw {K : PySem.W.Frag} {TT : List (Addr × Str)} {p l o : Addr} {ms : List Int} {i i' n' : Int} {H H' : Hp} (S : Std K TT p l o ms i H) (L : Pen H' p l ms i' n') (k : ∀ b o, b ≠ p → H b = some o → H' b = some o) : Std K TT p l o ms i' H' :=
  ⟨⟨n', L⟩, S.tabs.ext (wo_keep k), S.odd.step (wo_keep k)⟩
/-- good data at a value -/
def GV (K : PySem.W.Frag) (p : Addr) (H : Hp) (v : V) (d : PyData) : Prop := Dv K (wo p H) v d ∧ SmR d
theorem GV.step {K : PySem.W.Frag} {p : Addr} {H H' : Hp} {v : V} {d : PyData} (g : GV K p H v d) (s : Same (wo p H) (wo p H')) : GV K p H' v d := ⟨g.1.same s, g.2⟩
theorem GV.dv {K : PySem.W.Frag} {p : Addr} {H : Hp} {v : V} {d : PyData} (g : GV K p H v d) : Dv K H v d := g.1.same wo_le
/-- an odd thing at a place -/
theorem LD.at {K : PySem.W.Frag} {p o : Addr} {H : Hp} {i : Int} (h : LD K (wo p H) o oddD) (h0 : 0 ≤ i) (h9 : i < 40) : ∃ vs v d, H o = some (.lst vs) ∧ vs.length = 40 ∧ atI vs i = some v ∧ GV K p H v d ∧ SpotD d := by
  obtain ⟨vs, h1, h2⟩ := h.ex
  have hl : vs.length = 40 := h2.len.trans odd_len
  obtain ⟨x, hx, hat⟩ := at_some (l := vs) h0 (by rw [hl]; exact h9)
  obtain ⟨d, ed, hd⟩ := h2.get hx
  have g := odd_good.get ed
  exact ⟨vs, x, d, (wo_some h1).2, hl, hat, ⟨hd, g.1⟩, g.2⟩
theorem allAt {K : PySem.W.Frag} {H : Hp} {vs : List V} {ds : List PyData} {i : Int} (h : DvAll K H vs ds) (h0 : 0 ≤ i) (h9 : i < vs.length) : ∃ v d, atI vs i = some v ∧ Dv K H v d ∧ ds[i.toNat]? = some d := by
  obtain ⟨x, hx, hat⟩ := at_some (l := vs) h0 h9
  obtain ⟨d, ed, hd⟩ := h.get hx
  exact ⟨x, d, hat, hd, ed⟩
theorem figs_len : (figsTo 6).length = 36 := by decide
/-- a shape of the list -/
theorem figs_mem {k : List Int} (h : k ∈ figsTo 6) : isFig (.tuple (k.map PyData.int)) = true ∧ ∀ z ∈ k, 0 ≤ z ∧ z ≤ 5 := by
  have z : ((figsTo 6).all fun k => isFig (.tuple (k.map PyData.int)) && k.all fun z => decide (0 ≤ z) && decide (z ≤ 5)) = true := by decide +kernel
  have y := List.all_eq_true.mp z k h
  rw [Bool.and_eq_true] at y
  refine ⟨y.1, fun a ha => ?_⟩
  have x := List.all_eq_true.mp y.2 a ha
  rw [Bool.and_eq_true, decide_eq_true_iff, decide_eq_true_iff] at x
  exact x
theorem figs_sm {k : List Int} (h : k ∈ figsTo 6) : SmR (.tuple (k.map PyData.int)) := by
  obtain ⟨l, e, h2⟩ := fig_ints (figs_mem h).1
  have hk := (figs_mem h).2
  match k, hk with
  | [], _ => rcases h2 with ⟨a, rfl, _⟩ | ⟨a, b, rfl, _⟩ <;> cases e
  | [a], hk =>
    have ha := hk a List.mem_cons_self
    have la := PyData.shown_int_le2 (i := a) (by omega) (by omega)
    refine ⟨?_, ?_, by simp [PyData.depth, PyData.depthAll]⟩
    · have o := ok_intZ (i := a) (by omega) (by omega)
      simp only [List.map_cons, List.map_nil, okD, okAll, Bool.and_true] at o ⊢
      exact o
    · have e1 : (PyData.tuple [.int a]).shown = (("(" : Str) ++ Str.join ", " [(PyData.int a).shown]) ++ (",)" : Str) := by
        simp only [PyData.shown, PyData.shownAll]
        rfl
      show (PyData.tuple [.int a]).shown.length ≤ 100
      rw [e1, strLen_append, strLen_append]
      have e2 : (Str.ofString "(").length = 1 := rfl
      have e3 : (Str.ofString ",)").length = 2 := rfl
      have e4 : (Str.join ", " [(PyData.int a).shown]).length = (PyData.int a).shown.length := rfl
      omega
  | [a, b], hk =>
    have ha := hk a List.mem_cons_self
    have hb := hk b (List.mem_cons_of_mem _ List.mem_cons_self)
    exact sm_pair (by omega) (by omega) (by omega) (by omega)
  | _ :: _ :: _ :: _, _ => rcases h2 with ⟨a, rfl, _⟩ | ⟨a, b, rfl, _⟩ <;> cases e
theorem gone_sm {v : V} {d : PyData} (h : (v, d) ∈ ([(.bl true, .bool true), (.bl false, .bool false), (.non, .none), (.int 0, .int 0), (.int 1, .int 1), (.str "", .str "")] : List (V × PyData))) (K : PySem.W.Frag) (H : Hp) (p : Addr) : GV K p H v d := by
  simp only [List.mem_cons, List.not_mem_nil, or_false, Prod.mk.injEq] at h
  rcases h with ⟨rfl, rfl⟩ | ⟨rfl, rfl⟩ | ⟨rfl, rfl⟩ | ⟨rfl, rfl⟩ | ⟨rfl, rfl⟩ | ⟨rfl, rfl⟩
  · exact ⟨.bl _, odg1.1⟩
  · exact ⟨.bl _, odg2.1⟩
  · exact ⟨.non, odg0.1⟩
  · exact ⟨.int _, sm_int (by decide) (by decide)⟩
  · exact ⟨.int _, sm_int (by decide) (by decide)⟩
  · exact ⟨.str _, odg10.1⟩
def spLw (K : PySem.W.Frag) (TT : List (Addr × Str)) : Sp := fun vs H Q _ => ∃ (a : Addr) (ns : List Int), vs = [.ref a] ∧ SqL K H a (ns.map V.int) ∧ LamX.Tabs TT H ∧ ∀ H', Q (.bl true) H'
abbrev CalPen (P : Program) (w : World) (K : PySem.W.Frag) (mg : Str → Option Value) (base : Heap) : Prop := Cal P w K mg base CX0 1 "_law_pen" ["script"] (spPen K)
abbrev CalDrw (P : Program) (w : World) (K : PySem.W.Frag) (mg : Str → Option Value) (base : Heap) : Prop := Cal P w K mg base CX0 2 "_law_draw" ["pen", "under"] spDraw
abbrev CalFgs (P : Program) (w : World) (K : PySem.W.Frag) (mg : Str → Option Value) (base : Heap) : Prop := Cal P w K mg base CX0 1 "_law_figures" [] spFgs
abbrev CalNr (P : Program) (w : World) (K : PySem.W.Frag) (mg : Str → Option Value) (base : Heap) (TT : List (Addr × Str)) : Prop := CalG P w K mg base CX0 10 "_law_number_right" ["number"] (spNr K TT)
theorem ok_lw {f cS : Addr} {TT : List (Addr × Str)} {fd : FuncData} (F' : Fun K "law" "law" sLw f fd) (T : Bi1 mg) (B : Blt mg) (CP : CalPen P w K mg base) (CD : CalDrw P w K mg base) (CF : CalFgs P w K mg base) (CA : CalPlc P w K mg base cS) (CO : CalSpo P w K mg base) (CS : CalShp P w K mg base)
    (CN : CalNr P w K mg base TT) (CR : CalSr P w K mg base TT) (CB : CalBr P w K mg base TT) : GFn P w K mg base CX0 11 f fd ["script"] (spLw K TT) := by
  obtain ⟨fP, fdP, GP, gP, kP, bP⟩ := CP
  obtain ⟨fD, fdD, GD, gD, kD, bD⟩ := CD
  obtain ⟨fF, fdF, GF, gF, kF, bF⟩ := CF
  obtain ⟨fA, fdA, GA, gA, kA, bA⟩ := CA
  obtain ⟨fO, fdO, GO, gO, kO, bO⟩ := CO
  obtain ⟨fS, fdS, GS, gS, kS, bS⟩ := CS
  obtain ⟨fN, fdN, GN, gN, kN, bN⟩ := CN
  obtain ⟨fR, fdR, GR, gR, kR, bR⟩ := CR
  obtain ⟨fB, fdB, GB, gB, kB, bB⟩ := CB
  refine Own.Fun.gok F' sc_lw (fun vs H Q E h => ?_) (fun cdv A outer s H vs Q E hg hr h => ?_)
  · obtain ⟨a, ns, rfl, _⟩ := h
    rfl
  · obtain ⟨a, ns, rfl, hS, tb, k⟩ := h
    have hg2 : (cxOf CX0 P w K mg base ["script", "pen", "odd", "figure", "found", "turn", "code", "gone", "spot", "wide", "seen", "number"] "law" (defScope sLw) f cdv A outer s H E).nox.A.guards = some [] := hg
    have hu2 : (cxOf CX0 P w K mg base ["script", "pen", "odd", "figure", "found", "turn", "code", "gone", "spot", "wide", "seen", "number"] "law" (defScope sLw) f cdv A outer s H E).nox.A.units + 64 < cLine := by
      have z := hr.units
      exact Nat.lt_of_le_of_lt (Nat.add_le_add_left (by decide) _) z
    have hrN : Room 10 _ := hr
    have hrR : Room 9 _ := hr.mono (by decide)
    have hrB : Room 8 _ := hr.mono (by decide)
    have hrA : Room 6 _ := hr.mono (by decide)
    have hrS : Room 4 _ := hr.mono (by decide)
    have hr2 : Room 2 _ := hr.mono (by decide)
    have hr1 : Room 1 _ := hr.mono (by decide)
    have eqs : ∀ x : V, (!decide (x = x)) = false := fun x => by simp
    refine ⟨_, (C8.pss_cut (ps_set (i := 1) sc_lw.nd rfl (.inl rfl) (pe_call GP hr1 (by rfl) gP kP bP .nil pass0 (pa_cons (pv 0) pa_nil)))
        (C8.pss_cut (ps_set (i := 2) sc_lw.nd rfl (.inl rfl) (pe_lst (pa_cons (pe_non) (pa_cons (pe_bl) (pa_cons (pe_bl) (pa_cons (pe_un un_neg (pe_int)) (pa_cons (pe_int) (pa_cons (pe_int) (pa_cons (pe_int) (pa_cons (pe_int) (pa_cons (pe_op op_pow (pe_int) (pe_int)) (pa_cons (pe_str) (pa_cons (pe_str) (pa_cons (pe_tup pa_nil) (pa_cons (pe_lst pa_nil) (pa_cons (pe_dnewK) (pa_cons (pe_tup (pa_cons (pe_int) pa_nil)) (pa_cons (pe_lst (pa_cons (pe_int) pa_nil)) (pa_cons (pe_tup (pa_cons (pe_bl) pa_nil)) (pa_cons (pe_tup (pa_cons (pe_int) (pa_cons (pe_bl) pa_nil))) (pa_cons (pe_tup (pa_cons (pe_int) (pa_cons (pe_int) pa_nil))) pa_nil)))))))))))))))))))))
        (C8.pss_cut (ps_set (i := 2) sc_lw.nd rfl (.inl rfl) (pe_op op_cat (pv 2) (pe_lst (pa_cons (pe_tup (pa_cons (pe_int) (pa_cons (pe_int) (pa_cons (pe_int) pa_nil)))) (pa_cons (pe_tup (pa_cons (pe_int) pa_nil)) (pa_cons (pe_tup (pa_cons (pe_int) (pa_cons (pe_int) pa_nil))) (pa_cons (pe_tup (pa_cons (pe_un un_neg (pe_int)) pa_nil)) (pa_cons (pe_tup (pa_cons (pe_tup (pa_cons (pe_int) pa_nil)) pa_nil)) (pa_cons (pe_tup (pa_cons (pe_str) pa_nil)) (pa_cons (pe_lst (pa_cons (pe_int) (pa_cons (pe_int) pa_nil))) (pa_cons (pe_tup (pa_cons (pe_int) (pa_cons (pe_int) pa_nil))) (pa_cons (pe_tup (pa_cons (pe_int) (pa_cons (pe_int) pa_nil))) (pa_cons (pe_tup (pa_cons (pe_int) (pa_cons (pe_int) pa_nil))) (pa_cons (pe_tup (pa_cons (pe_int) (pa_cons (pe_int) pa_nil))) (pa_cons (pe_tup (pa_cons (pe_int) (pa_cons (pe_non) pa_nil))) pa_nil)))))))))))))))
        (C8.pss_cut (ps_set (i := 2) sc_lw.nd rfl (.inl rfl) (pe_op op_cat (pv 2) (pe_lst (pa_cons (pe_disp (pps_cons (pe_int) (pe_int) pps_nil) (by rfl) (by rfl) (fun z => by cases z) (by decide)) (pa_cons (pe_tup (pa_cons (pe_int) (pa_cons (pe_int) pa_nil))) (pa_cons (pe_tup (pa_cons (pe_int) (pa_cons (pe_int) pa_nil))) (pa_cons (pe_tup (pa_cons (pe_non) (pa_cons (pe_int) pa_nil))) (pa_cons (pe_tup (pa_cons (pe_bl) (pa_cons (pe_int) pa_nil))) (pa_cons (pe_tup (pa_cons (pe_bl) (pa_cons (pe_int) pa_nil))) (pa_cons (pe_tup (pa_cons (pe_bl) (pa_cons (pe_int) pa_nil))) (pa_cons (pe_tup (pa_cons (pe_bl) (pa_cons (pe_int) pa_nil))) (pa_cons (pe_tup (pa_cons (pe_bl) pa_nil)) pa_nil))))))))))))
        (C8.pss_cut (ps_for PassesOwn.never rfl (pi_list (pe_call0 GF hr1 (by rfl) gF kF bF .nil pass0)) (pg_name (i := 3) sc_lw.nd rfl (.inl rfl)) (pss_cons (ps_set (i := 4) sc_lw.nd rfl (.inl rfl) (pe_call GA hrA (by rfl) gA kA bA .nil passNo (pa_cons (pv 3) pa_nil)))
        (pss_cons (ps_if (PW.pt (pw_or (pt_cmpR (op_neD hr.units) (pv 4) (pe_call GO hr2 (by rfl) gO kO bO .nil pass0 (pa_cons (pv 3) pa_nil)) (nomark _)) (pw_or (pt_cmpR op_isnot_b (pe_call GS hrS (by rfl) gS kS bS .nil pass0 (pa_cons (pv 3) pa_nil)) pe_bl (nomark _)) (pw_or1 (pt_cmpR op_isnot_b (pe_call GS hrS (by rfl) gS kS bS .nil pass0 (pa_cons (pe_callTy call_list_of (by rfl) B.lst (by decide +kernel) (pa_cons (pv 3) pa_nil)) pa_nil)) pe_bl (nomark _)))))) (pss_one (ps_ret (pe_bl))) pss_nil)
        (pss_one (ps_expr (pe_bm PySem.F.plainAttrs_list PySem.F.slot_list_append PySem.F.type_list_append mt_append (pv 4) (pa_cons (pe_non) pa_nil)))))))
        (C8.pss_cut (ps_if (pt_not (pt_val (pe_callB (cr_all rfl) (by rfl) T.all (by decide +kernel) (pa_cons (pe_lc (own := [("number", 11)]) (g := gName 11) rfl sc_lw.nd (pi_list (pe_op op_cat (pe_listRg rfl (by rfl) B.lst (prg_2 (by rfl) T.range (pe_un un_neg pe_int) pe_int)) (pe_lst (pa_cons (pe_int) (pa_cons (pe_int) (pa_cons (pe_int) (pa_cons (pe_int) (pa_cons (pe_int) (pa_cons (pe_int) pa_nil))))))))) (blkOk_by (N := ["script", "pen", "odd", "figure", "found", "turn", "code", "gone", "spot", "wide", "seen", "number"]) (sc := defScope sLw) (by decide +kernel)) (fun _ _ _ _ _ => (pg_name (i := 11) sc_lw.nd rfl (.inl rfl))) (fun _ _ _ _ _ => pts_nil) (fun _ _ _ _ _ => (pe_callG GN hg2 hrN (by rfl) gN kN bN .nil pass0 (pa_cons (pv 11) pa_nil)))) pa_nil)))) (pss_one (ps_ret (pe_bl))) pss_nil)
        (C8.pss_cut (ps_for PassesOwn.never rfl (pi_range1 (by rfl) T.range (pa_cons (pe_int) pa_nil)) (pg_name (i := 5) sc_lw.nd rfl (.inl rfl)) (C8.pss_cut (ps_set (i := 3) sc_lw.nd rfl (.inl rfl) (pe_ifExp (pt_cmpR op_gt (pe_call GD hr2 (by rfl) gD kD bD .nil pass0 (pa_cons (pv 1) (pa_cons (pe_int) pa_nil))) (pe_int) (nomark _)) (pe_ix ix_list (pe_call0 GF hr1 (by rfl) gF kF bF .nil pass0) (pe_call GD hr2 (by rfl) gD kD bD .nil pass0 (pa_cons (pv 1) (pa_cons (pe_int) pa_nil))) (fun _ _ => rfl)) (pe_ix ix_list (pv 2) (pe_call GD hr2 (by rfl) gD kD bD .nil pass0 (pa_cons (pv 1) (pa_cons (pe_callB call_len_seq (by rfl) T.len PySem.boot_len (pa_cons (pv 2) pa_nil)) pa_nil))) (fun _ _ => rfl))))
        (C8.pss_cut (ps_set (i := 6) sc_lw.nd rfl (.inl rfl) (pe_ifExp (pt_cmpR op_gt (pe_call GD hr2 (by rfl) gD kD bD .nil pass0 (pa_cons (pv 1) (pa_cons (pe_int) pa_nil))) (pe_int) (nomark _)) (pe_call GD hr2 (by rfl) gD kD bD .nil pass0 (pa_cons (pv 1) (pa_cons (pe_int) pa_nil))) (pe_ix ix_list (pv 2) (pe_call GD hr2 (by rfl) gD kD bD .nil pass0 (pa_cons (pv 1) (pa_cons (pe_callB call_len_seq (by rfl) T.len PySem.boot_len (pa_cons (pv 2) pa_nil)) pa_nil))) (fun _ _ => rfl))))
        (C8.pss_cut (ps_set (i := 7) sc_lw.nd rfl (.inl rfl) (pe_ix ix_list (pe_lst (pa_cons (pe_bl) (pa_cons (pe_bl) (pa_cons (pe_bl) (pa_cons (pe_bl) (pa_cons (pe_non) (pa_cons (pe_int) (pa_cons (pe_int) (pa_cons (pe_str) (pa_cons (pe_tup pa_nil) pa_nil)))))))))) (pe_call GD hr2 (by rfl) gD kD bD .nil pass0 (pa_cons (pv 1) (pa_cons (pe_int) pa_nil))) (fun _ _ => rfl)))
        (C8.pss_cut (ps_set (i := 8) sc_lw.nd rfl (.inl rfl) (pe_ifExp (pt_cmpR op_gt (pe_call GD hr2 (by rfl) gD kD bD .nil pass0 (pa_cons (pv 1) (pa_cons (pe_int) pa_nil))) (pe_int) (nomark _)) (pe_ix ix_list (pv 2) (pe_call GD hr2 (by rfl) gD kD bD .nil pass0 (pa_cons (pv 1) (pa_cons (pe_callB call_len_seq (by rfl) T.len PySem.boot_len (pa_cons (pv 2) pa_nil)) pa_nil))) (fun _ _ => rfl)) (pe_tup (pa_cons (pe_call GD hr2 (by rfl) gD kD bD .nil pass0 (pa_cons (pv 1) (pa_cons (pe_int) pa_nil))) (pa_cons (pe_op op_sub (pe_call GD hr2 (by rfl) gD kD bD .nil pass0 (pa_cons (pv 1) (pa_cons (pe_int) pa_nil))) (pe_int)) pa_nil)))))
        (C8.pss_cut (ps_set (i := 9) sc_lw.nd rfl (.inl rfl) (pe_ifExp (pt_cmpR op_gt (pe_call GD hr2 (by rfl) gD kD bD .nil pass0 (pa_cons (pv 1) (pa_cons (pe_int) pa_nil))) (pe_int) (nomark _)) (pe_call GD hr2 (by rfl) gD kD bD .nil pass0 (pa_cons (pv 1) (pa_cons (pe_int) pa_nil))) (pe_ix ix_list (pv 2) (pe_call GD hr2 (by rfl) gD kD bD .nil pass0 (pa_cons (pv 1) (pa_cons (pe_callB call_len_seq (by rfl) T.len PySem.boot_len (pa_cons (pv 2) pa_nil)) pa_nil))) (fun _ _ => rfl))))
        (pss_cons (ps_set (i := 10) sc_lw.nd rfl (.inl rfl) (pe_callB (call_repr hg2 hu2) (by rfl) T.repr (by decide +kernel) (pa_cons (pe_lst (pa_cons (pv 3) (pa_cons (pv 6) (pa_cons (pv 7) (pa_cons (pv 8) (pa_cons (pv 9) pa_nil)))))) pa_nil)))
        (pss_cons (ps_if (PW.pt (pw_or (pt_not (pt_val (pe_callG GR hg2 hrR (by rfl) gR kR bR .nil pass0 (pa_cons (pv 3) (pa_cons (pv 6) (pa_cons (pv 7) (pa_cons (pv 8) pa_nil))))))) (pw_or1 (pt_not (pt_val (pe_callG GB hg2 hrB (by rfl) gB kB bB .nil pass0 (pa_cons (pv 6) (pa_cons (pv 9) pa_nil)))))))) (pss_one (ps_ret (pe_bl))) pss_nil)
        (pss_one (ps_if (pt_cmpR op_ne (pe_callB (call_repr hg2 hu2) (by rfl) T.repr (by decide +kernel) (pa_cons (pe_lst (pa_cons (pv 3) (pa_cons (pv 6) (pa_cons (pv 7) (pa_cons (pv 8) (pa_cons (pv 9) pa_nil)))))) pa_nil)) (pv 10) (nomark _)) (pss_one (ps_ret (pe_bl))) pss_nil))))))))))
        (pss_one (ps_ret (pe_bl)))))))))), ?_⟩
    -- the pen
    refine ⟨fun σ H => ∃ p l ms, σ = [some (.ref a), some (.ref p), none, none, none, none, none, none, none, none, none, none] ∧ Pen H p l ms 0 0 ∧ LamX.Tabs TT (wo p H), ⟨_, rfl, a, ns, rfl, hS, fun H1 p l ms hp s1 L1 => ⟨p, l, ms, rfl, L1, tabs_wo L1.hp (tb.ext s1)⟩⟩, ?_⟩
    rintro σ H0 ⟨p, l, ms, rfl, M0, T0⟩
    -- the odd things
    refine ⟨fun σ H => ∃ o, σ = [some (.ref a), some (.ref p), some (.ref o), none, none, none, none, none, none, none, none, none] ∧ Pen H p l ms 0 0 ∧ LamX.Tabs TT (wo p H) ∧ LD K (wo p H) o oddA, ?_, ?_⟩
    · have A0 : DvAll K (wo p H0) [] [] := .nil
      refine ⟨_, rfl, ?_⟩
      refine ⟨_, _, rfl, rfl, ⟨by decide, by decide, by decide⟩, ?_⟩
      refine ⟨by show 0 ≤ sizeLine; decide, fun q1 hq1 => ?_⟩
      have X1 := stepN (o := .tup []) M0.hp hq1
      have A1 := DvAll.snoc (v := .ref q1) (d := .tuple []) (.tup (SqT.of X1.2) .nil) ((DvAll.snoc (.str "") (DvAll.snoc (.str "0") (DvAll.snoc (.int (10 ^ 39)) (DvAll.snoc (.int 32) (DvAll.snoc (.int 31) (DvAll.snoc (.int 6) (DvAll.snoc (.int 5) (DvAll.snoc (.int (-1)) (DvAll.snoc (.bl false) (DvAll.snoc (.bl true) (DvAll.snoc .non A0))))))))))).same X1.1)
      have M1 := M0.same (sameN (o := .tup []) hq1)
      have T1 := T0.ext X1.1
      generalize upd H0 q1 (.tup []) = H1 at A1 M1 T1  ⊢
      refine ⟨by show 0 ≤ sizeLine; decide, fun q2 hq2 => ?_⟩
      have X2 := stepN (o := .lst []) M1.hp hq2
      have A2 := DvAll.snoc (v := .ref q2) (d := .list []) (.lst (SqL.of X2.2) .nil) (A1.same X2.1)
      have M2 := M1.same (sameN (o := .lst []) hq2)
      have T2 := T1.ext X2.1
      generalize upd H1 q2 (.lst []) = H2 at A2 M2 T2  ⊢
      refine fun q3 hq3 => ?_
      have X3 := stepN (o := .dK []) M2.hp hq3
      have A3 := DvAll.snoc (v := .ref q3) (d := .dict []) (Dv.dct (kvs := []) (ds := []) X3.2 .nil) (A2.same X3.1)
      have M3 := M2.same (sameN (o := .dK []) hq3)
      have T3 := T2.ext X3.1
      generalize upd H2 q3 (.dK []) = H3 at A3 M3 T3  ⊢
      refine ⟨by show 1 ≤ sizeLine; decide, fun q4 hq4 => ?_⟩
      have X4 := stepN (o := .tup [.int 0]) M3.hp hq4
      have A4 := DvAll.snoc (v := .ref q4) (d := .tuple [.int 0]) (.tup (SqT.of X4.2) (.cons (.int 0) .nil)) (A3.same X4.1)
      have M4 := M3.same (sameN (o := .tup [.int 0]) hq4)
      have T4 := T3.ext X4.1
      generalize upd H3 q4 (.tup [.int 0]) = H4 at A4 M4 T4  ⊢
      refine ⟨by show 1 ≤ sizeLine; decide, fun q5 hq5 => ?_⟩
      have X5 := stepN (o := .lst [.int 0]) M4.hp hq5
      have A5 := DvAll.snoc (v := .ref q5) (d := .list [.int 0]) (.lst (SqL.of X5.2) (.cons (.int 0) .nil)) (A4.same X5.1)
      have M5 := M4.same (sameN (o := .lst [.int 0]) hq5)
      have T5 := T4.ext X5.1
      generalize upd H4 q5 (.lst [.int 0]) = H5 at A5 M5 T5  ⊢
      refine ⟨by show 1 ≤ sizeLine; decide, fun q6 hq6 => ?_⟩
      have X6 := stepN (o := .tup [.bl true]) M5.hp hq6
      have A6 := DvAll.snoc (v := .ref q6) (d := .tuple [.bool true]) (.tup (SqT.of X6.2) (.cons (.bl true) .nil)) (A5.same X6.1)
      have M6 := M5.same (sameN (o := .tup [.bl true]) hq6)
      have T6 := T5.ext X6.1
      generalize upd H5 q6 (.tup [.bl true]) = H6 at A6 M6 T6  ⊢
      refine ⟨by show 2 ≤ sizeLine; decide, fun q7 hq7 => ?_⟩
      have X7 := stepN (o := .tup [.int 0, .bl false]) M6.hp hq7
      have A7 := DvAll.snoc (v := .ref q7) (d := .tuple [.int 0, .bool false]) (.tup (SqT.of X7.2) (.cons (.int 0) (.cons (.bl false) .nil))) (A6.same X7.1)
      have M7 := M6.same (sameN (o := .tup [.int 0, .bl false]) hq7)
      have T7 := T6.ext X7.1
      generalize upd H6 q7 (.tup [.int 0, .bl false]) = H7 at A7 M7 T7  ⊢
      refine ⟨by show 2 ≤ sizeLine; decide, fun q8 hq8 => ?_⟩
      have X8 := stepN (o := .tup [.int 1, .int 1]) M7.hp hq8
      have A8 := DvAll.snoc (v := .ref q8) (d := .tuple [.int 1, .int 1]) (.tup (SqT.of X8.2) (.cons (.int 1) (.cons (.int 1) .nil))) (A7.same X8.1)
      have M8 := M7.same (sameN (o := .tup [.int 1, .int 1]) hq8)
      have T8 := T7.ext X8.1
      generalize upd H7 q8 (.tup [.int 1, .int 1]) = H8 at A8 M8 T8  ⊢
      refine ⟨by show 19 ≤ sizeLine; decide, fun o ho => ?_⟩
      have X := stepN (o := .lst [.non, .bl true, .bl false, .int (-1), .int 5, .int 6, .int 31, .int 32, .int (10 ^ 39), .str "0", .str "", .ref q1, .ref q2, .ref q3, .ref q4, .ref q5, .ref q6, .ref q7, .ref q8]) M8.hp ho
      exact ⟨o, rfl, M8.same (sameN ho), T8.ext X.1, ⟨⟨_, X.2, (A8).same X.1⟩⟩⟩
    rintro σ H0 ⟨o0, rfl, M0, T0, O0⟩
    refine ⟨fun σ H => ∃ o, σ = [some (.ref a), some (.ref p), some (.ref o), none, none, none, none, none, none, none, none, none] ∧ Pen H p l ms 0 0 ∧ LamX.Tabs TT (wo p H) ∧ LD K (wo p H) o (oddA ++ oddB), ?_, ?_⟩
    · have A0 : DvAll K (wo p H0) [] [] := .nil
      refine ⟨_, rfl, ?_⟩
      refine ⟨by show 3 ≤ sizeLine; decide, fun q1 hq1 => ?_⟩
      have X1 := stepN (o := .tup [.int 0, .int 1, .int 2]) M0.hp hq1
      have A1 := DvAll.snoc (v := .ref q1) (d := .tuple [.int 0, .int 1, .int 2]) (.tup (SqT.of X1.2) (.cons (.int 0) (.cons (.int 1) (.cons (.int 2) .nil)))) (A0.same X1.1)
      have M1 := M0.same (sameN (o := .tup [.int 0, .int 1, .int 2]) hq1)
      have T1 := T0.ext X1.1
      have O1 := O0.step X1.1
      generalize upd H0 q1 (.tup [.int 0, .int 1, .int 2]) = H1 at A1 M1 T1 O1 ⊢
      refine ⟨by show 1 ≤ sizeLine; decide, fun q2 hq2 => ?_⟩
      have X2 := stepN (o := .tup [.int 6]) M1.hp hq2
      have A2 := DvAll.snoc (v := .ref q2) (d := .tuple [.int 6]) (.tup (SqT.of X2.2) (.cons (.int 6) .nil)) (A1.same X2.1)
      have M2 := M1.same (sameN (o := .tup [.int 6]) hq2)
      have T2 := T1.ext X2.1
      have O2 := O1.step X2.1
      generalize upd H1 q2 (.tup [.int 6]) = H2 at A2 M2 T2 O2 ⊢
      refine ⟨by show 2 ≤ sizeLine; decide, fun q3 hq3 => ?_⟩
      have X3 := stepN (o := .tup [.int 0, .int 6]) M2.hp hq3
      have A3 := DvAll.snoc (v := .ref q3) (d := .tuple [.int 0, .int 6]) (.tup (SqT.of X3.2) (.cons (.int 0) (.cons (.int 6) .nil))) (A2.same X3.1)
      have M3 := M2.same (sameN (o := .tup [.int 0, .int 6]) hq3)
      have T3 := T2.ext X3.1
      have O3 := O2.step X3.1
      generalize upd H2 q3 (.tup [.int 0, .int 6]) = H3 at A3 M3 T3 O3 ⊢
      refine ⟨_, rfl, ?_⟩
      refine ⟨by show 1 ≤ sizeLine; decide, fun q4 hq4 => ?_⟩
      have X4 := stepN (o := .tup [.int (-1)]) M3.hp hq4
      have A4 := DvAll.snoc (v := .ref q4) (d := .tuple [.int (-1)]) (.tup (SqT.of X4.2) (.cons (.int (-1)) .nil)) (A3.same X4.1)
      have M4 := M3.same (sameN (o := .tup [.int (-1)]) hq4)
      have T4 := T3.ext X4.1
      have O4 := O3.step X4.1
      generalize upd H3 q4 (.tup [.int (-1)]) = H4 at A4 M4 T4 O4 ⊢
      refine ⟨by show 1 ≤ sizeLine; decide, fun qi hqi => ?_⟩
      have Xi := stepN (o := .tup [.int 0]) M4.hp hqi
      have Ai := A4.same Xi.1
      have Di : Dv K (wo p (upd H4 qi (.tup [.int 0]))) (.ref qi) (.tuple [.int 0]) := .tup (SqT.of Xi.2) (.cons (.int 0) .nil)
      have Mi := M4.same (sameN (o := .tup [.int 0]) hqi)
      have Ti := T4.ext Xi.1
      have Oi := O4.step Xi.1
      generalize upd H4 qi (.tup [.int 0]) = Hi at Ai Di Mi Ti Oi ⊢
      refine ⟨by show 1 ≤ sizeLine; decide, fun q5 hq5 => ?_⟩
      have X5 := stepN (o := .tup [.ref qi]) Mi.hp hq5
      have A5 := DvAll.snoc (v := .ref q5) (d := .tuple [.tuple [.int 0]]) (.tup (SqT.of X5.2) (.cons (Di.same X5.1) .nil)) (Ai.same X5.1)
      have M5 := Mi.same (sameN (o := .tup [.ref qi]) hq5)
      have T5 := Ti.ext X5.1
      have O5 := Oi.step X5.1
      generalize upd Hi q5 (.tup [.ref qi]) = H5 at A5 M5 T5 O5 ⊢
      refine ⟨by show 1 ≤ sizeLine; decide, fun q6 hq6 => ?_⟩
      have X6 := stepN (o := .tup [.str "0"]) M5.hp hq6
      have A6 := DvAll.snoc (v := .ref q6) (d := .tuple [.str "0"]) (.tup (SqT.of X6.2) (.cons (.str "0") .nil)) (A5.same X6.1)
      have M6 := M5.same (sameN (o := .tup [.str "0"]) hq6)
      have T6 := T5.ext X6.1
      have O6 := O5.step X6.1
      generalize upd H5 q6 (.tup [.str "0"]) = H6 at A6 M6 T6 O6 ⊢
      refine ⟨by show 2 ≤ sizeLine; decide, fun q7 hq7 => ?_⟩
      have X7 := stepN (o := .lst [.int 0, .int 1]) M6.hp hq7
      have A7 := DvAll.snoc (v := .ref q7) (d := .list [.int 0, .int 1]) (.lst (SqL.of X7.2) (.cons (.int 0) (.cons (.int 1) .nil))) (A6.same X7.1)
      have M7 := M6.same (sameN (o := .lst [.int 0, .int 1]) hq7)
      have T7 := T6.ext X7.1
      have O7 := O6.step X7.1
      generalize upd H6 q7 (.lst [.int 0, .int 1]) = H7 at A7 M7 T7 O7 ⊢
      refine ⟨by show 2 ≤ sizeLine; decide, fun q8 hq8 => ?_⟩
      have X8 := stepN (o := .tup [.int 0, .int 0]) M7.hp hq8
      have A8 := DvAll.snoc (v := .ref q8) (d := .tuple [.int 0, .int 0]) (.tup (SqT.of X8.2) (.cons (.int 0) (.cons (.int 0) .nil))) (A7.same X8.1)
      have M8 := M7.same (sameN (o := .tup [.int 0, .int 0]) hq8)
      have T8 := T7.ext X8.1
      have O8 := O7.step X8.1
      generalize upd H7 q8 (.tup [.int 0, .int 0]) = H8 at A8 M8 T8 O8 ⊢
      refine ⟨by show 2 ≤ sizeLine; decide, fun q9 hq9 => ?_⟩
      have X9 := stepN (o := .tup [.int 0, .int 1]) M8.hp hq9
      have A9 := DvAll.snoc (v := .ref q9) (d := .tuple [.int 0, .int 1]) (.tup (SqT.of X9.2) (.cons (.int 0) (.cons (.int 1) .nil))) (A8.same X9.1)
      have M9 := M8.same (sameN (o := .tup [.int 0, .int 1]) hq9)
      have T9 := T8.ext X9.1
      have O9 := O8.step X9.1
      generalize upd H8 q9 (.tup [.int 0, .int 1]) = H9 at A9 M9 T9 O9 ⊢
      refine ⟨by show 2 ≤ sizeLine; decide, fun q10 hq10 => ?_⟩
      have X10 := stepN (o := .tup [.int 1, .int 0]) M9.hp hq10
      have A10 := DvAll.snoc (v := .ref q10) (d := .tuple [.int 1, .int 0]) (.tup (SqT.of X10.2) (.cons (.int 1) (.cons (.int 0) .nil))) (A9.same X10.1)
      have M10 := M9.same (sameN (o := .tup [.int 1, .int 0]) hq10)
      have T10 := T9.ext X10.1
      have O10 := O9.step X10.1
      generalize upd H9 q10 (.tup [.int 1, .int 0]) = H10 at A10 M10 T10 O10 ⊢
      refine ⟨by show 2 ≤ sizeLine; decide, fun q11 hq11 => ?_⟩
      have X11 := stepN (o := .tup [.int 2, .int 0]) M10.hp hq11
      have A11 := DvAll.snoc (v := .ref q11) (d := .tuple [.int 2, .int 0]) (.tup (SqT.of X11.2) (.cons (.int 2) (.cons (.int 0) .nil))) (A10.same X11.1)
      have M11 := M10.same (sameN (o := .tup [.int 2, .int 0]) hq11)
      have T11 := T10.ext X11.1
      have O11 := O10.step X11.1
      generalize upd H10 q11 (.tup [.int 2, .int 0]) = H11 at A11 M11 T11 O11 ⊢
      refine ⟨by show 2 ≤ sizeLine; decide, fun q12 hq12 => ?_⟩
      have X12 := stepN (o := .tup [.int 0, .non]) M11.hp hq12
      have A12 := DvAll.snoc (v := .ref q12) (d := .tuple [.int 0, .none]) (.tup (SqT.of X12.2) (.cons (.int 0) (.cons .non .nil))) (A11.same X12.1)
      have M12 := M11.same (sameN (o := .tup [.int 0, .non]) hq12)
      have T12 := T11.ext X12.1
      have O12 := O11.step X12.1
      generalize upd H11 q12 (.tup [.int 0, .non]) = H12 at A12 M12 T12 O12 ⊢
      refine ⟨by show 12 ≤ sizeLine; decide, fun o ho => ?_⟩
      have X := stepN (o := .lst [.ref q1, .ref q2, .ref q3, .ref q4, .ref q5, .ref q6, .ref q7, .ref q8, .ref q9, .ref q10, .ref q11, .ref q12]) M12.hp ho
      have O9 := O12.step X.1
      obtain ⟨vs, e1, d1⟩ := O9.ex
      have l1 := d1.len
      refine ⟨o0, o, vs, _, rfl, rfl, (wo_some e1).2, upd_same, ?_, fun r hr => ?_⟩
      · rw [l1]
        show 31 ≤ sizeLine
        decide
      · have Y := stepN (o := .lst (vs ++ [.ref q1, .ref q2, .ref q3, .ref q4, .ref q5, .ref q6, .ref q7, .ref q8, .ref q9, .ref q10, .ref q11, .ref q12])) (M12.same (sameN ho)).hp hr
        exact ⟨r, rfl, (M12.same (sameN ho)).same (sameN hr), (T12.ext X.1).ext Y.1, ⟨⟨_, Y.2, (d1.app ((A12).same X.1)).same Y.1⟩⟩⟩
    rintro σ H0 ⟨o0, rfl, M0, T0, O0⟩
    refine ⟨fun σ H => ∃ o, σ = [some (.ref a), some (.ref p), some (.ref o), none, none, none, none, none, none, none, none, none] ∧ Std K TT p l o ms 0 H, ?_, ?_⟩
    · have A0 : DvAll K (wo p H0) [] [] := .nil
      refine ⟨_, rfl, ?_⟩
      refine fun q1 hq1 => ⟨upd_same, [(.inl 0, .int 1)], rfl, by decide, ?_⟩
      rw [upd_upd, show mergeK [] [((.inl 0 : Key), V.int 1)] = [(.inl 0, .int 1)] from rfl]
      have X1 := stepN (o := .dK [(.inl 0, .int 1)]) M0.hp hq1
      have A1 := DvAll.snoc (v := .ref q1) (d := .dict [(.int 0, .int 1)]) (Dv.dct (kvs := [(.inl 0, .int 1)]) (ds := [.int 1]) X1.2 (.cons (.int 1) .nil)) (A0.same X1.1)
      have M1 := M0.same (sameN (o := .dK [(.inl 0, .int 1)]) hq1)
      have T1 := T0.ext X1.1
      have O1 := O0.step X1.1
      generalize upd H0 q1 (.dK [(.inl 0, .int 1)]) = H1 at A1 M1 T1 O1 ⊢
      refine ⟨by show 2 ≤ sizeLine; decide, fun q2 hq2 => ?_⟩
      have X2 := stepN (o := .tup [.int 0, .int 32]) M1.hp hq2
      have A2 := DvAll.snoc (v := .ref q2) (d := .tuple [.int 0, .int 32]) (.tup (SqT.of X2.2) (.cons (.int 0) (.cons (.int 32) .nil))) (A1.same X2.1)
      have M2 := M1.same (sameN (o := .tup [.int 0, .int 32]) hq2)
      have T2 := T1.ext X2.1
      have O2 := O1.step X2.1
      generalize upd H1 q2 (.tup [.int 0, .int 32]) = H2 at A2 M2 T2 O2 ⊢
      refine ⟨by show 2 ≤ sizeLine; decide, fun q3 hq3 => ?_⟩
      have X3 := stepN (o := .tup [.int 1, .int 31]) M2.hp hq3
      have A3 := DvAll.snoc (v := .ref q3) (d := .tuple [.int 1, .int 31]) (.tup (SqT.of X3.2) (.cons (.int 1) (.cons (.int 31) .nil))) (A2.same X3.1)
      have M3 := M2.same (sameN (o := .tup [.int 1, .int 31]) hq3)
      have T3 := T2.ext X3.1
      have O3 := O2.step X3.1
      generalize upd H2 q3 (.tup [.int 1, .int 31]) = H3 at A3 M3 T3 O3 ⊢
      refine ⟨by show 2 ≤ sizeLine; decide, fun q4 hq4 => ?_⟩
      have X4 := stepN (o := .tup [.non, .int 0]) M3.hp hq4
      have A4 := DvAll.snoc (v := .ref q4) (d := .tuple [.none, .int 0]) (.tup (SqT.of X4.2) (.cons .non (.cons (.int 0) .nil))) (A3.same X4.1)
      have M4 := M3.same (sameN (o := .tup [.non, .int 0]) hq4)
      have T4 := T3.ext X4.1
      have O4 := O3.step X4.1
      generalize upd H3 q4 (.tup [.non, .int 0]) = H4 at A4 M4 T4 O4 ⊢
      refine ⟨by show 2 ≤ sizeLine; decide, fun q5 hq5 => ?_⟩
      have X5 := stepN (o := .tup [.bl true, .int 0]) M4.hp hq5
      have A5 := DvAll.snoc (v := .ref q5) (d := .tuple [.bool true, .int 0]) (.tup (SqT.of X5.2) (.cons (.bl true) (.cons (.int 0) .nil))) (A4.same X5.1)
      have M5 := M4.same (sameN (o := .tup [.bl true, .int 0]) hq5)
      have T5 := T4.ext X5.1
      have O5 := O4.step X5.1
      generalize upd H4 q5 (.tup [.bl true, .int 0]) = H5 at A5 M5 T5 O5 ⊢
      refine ⟨by show 2 ≤ sizeLine; decide, fun q6 hq6 => ?_⟩
      have X6 := stepN (o := .tup [.bl false, .int 0]) M5.hp hq6
      have A6 := DvAll.snoc (v := .ref q6) (d := .tuple [.bool false, .int 0]) (.tup (SqT.of X6.2) (.cons (.bl false) (.cons (.int 0) .nil))) (A5.same X6.1)
      have M6 := M5.same (sameN (o := .tup [.bl false, .int 0]) hq6)
      have T6 := T5.ext X6.1
      have O6 := O5.step X6.1
      generalize upd H5 q6 (.tup [.bl false, .int 0]) = H6 at A6 M6 T6 O6 ⊢
      refine ⟨by show 2 ≤ sizeLine; decide, fun q7 hq7 => ?_⟩
      have X7 := stepN (o := .tup [.bl true, .int 2]) M6.hp hq7
      have A7 := DvAll.snoc (v := .ref q7) (d := .tuple [.bool true, .int 2]) (.tup (SqT.of X7.2) (.cons (.bl true) (.cons (.int 2) .nil))) (A6.same X7.1)
      have M7 := M6.same (sameN (o := .tup [.bl true, .int 2]) hq7)
      have T7 := T6.ext X7.1
      have O7 := O6.step X7.1
      generalize upd H6 q7 (.tup [.bl true, .int 2]) = H7 at A7 M7 T7 O7 ⊢
      refine ⟨by show 2 ≤ sizeLine; decide, fun q8 hq8 => ?_⟩
      have X8 := stepN (o := .tup [.bl false, .int 3]) M7.hp hq8
      have A8 := DvAll.snoc (v := .ref q8) (d := .tuple [.bool false, .int 3]) (.tup (SqT.of X8.2) (.cons (.bl false) (.cons (.int 3) .nil))) (A7.same X8.1)
      have M8 := M7.same (sameN (o := .tup [.bl false, .int 3]) hq8)
      have T8 := T7.ext X8.1
      have O8 := O7.step X8.1
      generalize upd H7 q8 (.tup [.bl false, .int 3]) = H8 at A8 M8 T8 O8 ⊢
      refine ⟨by show 1 ≤ sizeLine; decide, fun q9 hq9 => ?_⟩
      have X9 := stepN (o := .tup [.bl false]) M8.hp hq9
      have A9 := DvAll.snoc (v := .ref q9) (d := .tuple [.bool false]) (.tup (SqT.of X9.2) (.cons (.bl false) .nil)) (A8.same X9.1)
      have M9 := M8.same (sameN (o := .tup [.bl false]) hq9)
      have T9 := T8.ext X9.1
      have O9 := O8.step X9.1
      generalize upd H8 q9 (.tup [.bl false]) = H9 at A9 M9 T9 O9 ⊢
      refine ⟨by show 9 ≤ sizeLine; decide, fun o ho => ?_⟩
      have X := stepN (o := .lst [.ref q1, .ref q2, .ref q3, .ref q4, .ref q5, .ref q6, .ref q7, .ref q8, .ref q9]) M9.hp ho
      have O9 := O9.step X.1
      obtain ⟨vs, e1, d1⟩ := O9.ex
      have l1 := d1.len
      refine ⟨o0, o, vs, _, rfl, rfl, (wo_some e1).2, upd_same, ?_, fun r hr => ?_⟩
      · rw [l1]
        show 40 ≤ sizeLine
        decide
      · have Y := stepN (o := .lst (vs ++ [.ref q1, .ref q2, .ref q3, .ref q4, .ref q5, .ref q6, .ref q7, .ref q8, .ref q9])) (M9.same (sameN ho)).hp hr
        exact ⟨r, rfl, ⟨0, (M9.same (sameN ho)).same (sameN hr)⟩, (T9.ext X.1).ext Y.1, ⟨⟨_, Y.2, (d1.app ((A9).same X.1)).same Y.1⟩⟩⟩
    rintro σ H0 ⟨o, rfl, S0⟩
    -- all shapes
    refine ⟨fun σ H => ∃ u v, σ = [some (.ref a), some (.ref p), some (.ref o), u, v, none, none, none, none, none, none, none] ∧ Std K TT p l o ms 0 H, ?_, ?_⟩
    · refine ⟨rfl, fun H1 D xs s1 hD0 hD ht => ⟨D, rfl, ⟨xs, SqL.of hD⟩, ?_⟩⟩
      have S1 := S0.same s1
      refine for_list (K := K) (a := D) (xs := xs) (fun i σ H' => (∃ u v, σ = [some (.ref a), some (.ref p), some (.ref o), u, v, none, none, none, none, none, none, none]) ∧ Same H1 H') ⟨⟨none, none, rfl⟩, Same.refl _⟩ (fun i σ H' _ ⟨_, z⟩ => z.seq (SqL.of hD)) ?_ ?_
      · rintro i x σ H' hx ⟨⟨u, v, rfl⟩, sF⟩
        have hi : i < (figsTo 6).length := by rw [← ht.len]; exact (List.getElem?_eq_some_iff.mp hx).1
        obtain ⟨q, ks, eq, ek, hq⟩ := ht.get hi
        rw [eq] at hx
        cases hx
        have mk := figs_mem (List.mem_of_getElem? ek)
        have dF : Dv K H' (.ref q) (.tuple (ks.map PyData.int)) := .tup (SqT.of (sF _ _ hq)) (dv_ints ks)
        obtain ⟨ws, ew, hl, hw⟩ := fig_tup mk.1
        have ew2 : ks.map PyData.int = ws := PyData.tuple.inj ew
        refine ⟨_, rfl, .ref q, _, rfl, dF, fun H2 s2 z => ?_, fun ws' ew' _ H2 D2 xs2 s2 hD20 hD2 hsp => ?_⟩
        · rw [mk.1] at z
          cases z
        · cases ew'
          refine ⟨_, rfl, _, rfl, .ref q, _, rfl, dF.same s2, mk.1, fun H3 D3 xs3 s3 hD30 hD3 hsp3 => ⟨.list (spotsD (ks.map PyData.int)), .list (spotsD (ks.map PyData.int)), .lst (SqL.of (s3 _ _ hD2)) (hsp.same s3).dp, .lst (SqL.of hD3) hsp3.dp, shaped_spots _, shaped_spots _, _, rfl, ?_⟩⟩
          refine iteNb (b := !PyData.eqv (.list (spotsD (ks.map PyData.int))) (.list (spotsD (ks.map PyData.int)))) (by rw [SeqAt.eqv_refl _ (SeqAt.canLay_of_shaped (shaped_spots _))]; rfl) ?_
          refine ⟨_, rfl, .ref q, _, rfl, (dF.same s2).same s3, fun H4 s4 => ⟨true, rfl, _, rfl, iteNb (by rw [mk.1]; simp) ?_⟩⟩
          refine ⟨_, rfl, q, _, rfl, .inr (SqT.of (s4 _ _ (s3 _ _ (s2 _ _ (sF _ _ hq))))), fun l9 hl9 => ⟨.ref l9, .list (ks.map PyData.int), rfl, .lst (SqL.of upd_same) (dv_ints ks), fun H6 s6 => ⟨false, rfl, _, rfl, iteNb (by show (!decide (V.bl false = V.bl false)) = false; simp) ?_⟩⟩⟩
          have s26 : Same H2 H6 := (s3.trans s4).trans ((sameN hl9).trans s6)
          have hD6 := s26 _ _ hD2
          refine ⟨_, rfl, .inl ⟨rfl, _, SqL.of hD6⟩, D2, _, _, rfl, rfl, hD6, ?_, ⟨⟨_, _, rfl⟩, fun b oo e => ?_⟩⟩
          · have l1 := hsp.len
            rw [ew2] at l1
            have l2 := spotsTo_len (ws := ws) (many_le hw) ws.length
            exact Nat.lt_of_le_of_lt (show xs2.length ≤ 64 by omega) (by decide)
          · have e2 := sF _ _ e
            rw [upd_ne (ne_of_none e2 hD20)]
            exact s26 _ _ (s2 _ _ e2)
      · rintro σ H' ⟨⟨u, v, rfl⟩, sF⟩
        exact ⟨u, v, rfl, S1.same sF⟩
    rintro σ H0 ⟨u, v, rfl, S0⟩
    -- all numbers
    refine ⟨fun σ H => σ = [some (.ref a), some (.ref p), some (.ref o), u, v, none, none, none, none, none, none, none] ∧ Std K TT p l o ms 0 H, ?_, ?_⟩
    · refine ⟨_, rfl, -3, 41, rfl, rfl, ⟨by decide, by decide, by decide, by decide, by decide⟩, fun q1 hq1 => ⟨by show 6 ≤ sizeLine; decide, fun q2 hq2 => ?_⟩⟩
      have n12 : q1 ≠ q2 := ne_of_none upd_same hq2
      refine ⟨q1, q2, rgV (-3) 41, _, rfl, rfl, by rw [upd_ne n12, upd_same], upd_same, by show 50 ≤ sizeLine; decide, fun q3 hq3 => ⟨q3, rfl, ⟨_, SqL.of upd_same⟩, ?_⟩⟩
      have SA := ((S0.same (sameN (o := .lst (rgV (-3) 41)) hq1)).same (sameN (o := .lst [V.int 45, .int 123, .int 234, .int 345, .int 1000, .int 12345]) hq2)).same (sameN (o := .lst (rgV (-3) 41 ++ [V.int 45, .int 123, .int 234, .int 345, .int 1000, .int 12345])) hq3)
      generalize ew : rgV (-3) 41 ++ [V.int 45, .int 123, .int 234, .int 345, .int 1000, .int 12345] = ws at SA ⊢
      have hws : ws.all smV = true := by rw [← ew]; decide +kernel
      have lws : ws.length = 50 := by rw [← ew]; decide +kernel
      have e3 : (upd (upd (upd H0 q1 (.lst (rgV (-3) 41))) q2 (.lst [V.int 45, .int 123, .int 234, .int 345, .int 1000, .int 12345])) q3 (.lst ws)) q3 = some (.lst ws) := upd_same
      generalize (upd (upd (upd H0 q1 (.lst (rgV (-3) 41))) q2 (.lst [V.int 45, .int 123, .int 234, .int 345, .int 1000, .int 12345])) q3 (.lst ws)) = H3 at SA e3 ⊢
      refine fun D hD => lc_list (xs := ws) (fun i H' => H' D = some (.lst (rowT i)) ∧ LamX.ExtN H3 H' ∧ LamX.Tabs TT H') ⟨upd_same, extN_same (sameN hD), (tabs_le SA.tabs).ext (sameN hD)⟩ (fun i H' _ ⟨_, x, _⟩ => sqL_extN x (SqL.of e3)) (fun i x H' hi ⟨h1, x1, t1⟩ => ?_) (fun H' ⟨h1, x1, t1⟩ => ?_)
      · obtain ⟨n, rfl, n0, n9⟩ := smV_some (List.all_eq_true.mp hws x (List.mem_of_getElem? hi))
        refine ⟨rfl, _, rfl, n, rfl, n0, n9, t1, fun H5 x5 t5 => ⟨_, x5 _ _ h1 (fun _ z => nomatch z), ?_, ?_, ?_, ?_⟩⟩
        · unfold rowT
          rw [List.length_map, List.length_replicate]
          have z := (List.getElem?_eq_some_iff.mp hi).1
          exact Nat.lt_trans z (by rw [lws]; decide)
        · rw [upd_same, rowT_more]
        · intro b oo e nt
          rw [upd_ne (ne_of_none e hD)]
          exact x5 _ _ (x1 _ _ e nt) nt
        · refine fun pp hpp => ?_
          obtain ⟨ps, y1, y2, y3⟩ := t5 pp hpp
          have hl5 := x5 _ _ h1 (fun _ z => nomatch z)
          refine ⟨ps, ?_, y2, fun pos cv hc => ?_⟩
          · rw [upd_ne (ne_of y1 hl5 (fun z => nomatch z))]
            exact y1
          · obtain ⟨c, e1, e2⟩ := y3 pos cv hc
            refine ⟨c, e1, ?_⟩
            rw [upd_ne (ne_of e2 hl5 (fun z => by have z' : HO.ext _ = HO.lst _ := z; cases z'))]
            exact e2
      · refine ⟨D, List.replicate ws.length true, rfl, SqL.of h1, _, rfl, iteNb (by simp) ?_⟩
        exact ⟨rfl, SA.ext x1 t1⟩
    rintro σ H0 ⟨rfl, S0⟩
    -- the turns
    refine ⟨fun _ _ => True, ?_, fun σ' H' _ => k H'⟩
    refine ⟨_, rfl, by decide, by decide, for_range (n := 60) (fun t σ H' => (∃ x3 x4 x5 x6 x7 x8 x9 x10, σ = [some (.ref a), some (.ref p), some (.ref o), x3, x4, x5, x6, x7, x8, x9, x10, none]) ∧ ∃ i, i ≤ 10 * (t : Int) ∧ Std K TT p l o ms i H') ⟨⟨u, v, none, none, none, none, none, none, rfl⟩, 0, by decide, S0⟩ ?_ (fun _ _ _ => trivial)⟩
    rintro t σ H1 ht ⟨⟨x3, x4, x5, x6, x7, x8, x9, x10, rfl⟩, i1, hi1, S1⟩
    have ht2 : (t : Int) < 60 := by omega
    refine ⟨fun σ H => ∃ vf df i, σ = [some (.ref a), some (.ref p), some (.ref o), some vf, x4, some (.int (0 + (t : Nat))), x6, x7, x8, x9, x10, none] ∧ i ≤ 10 * (t : Int) + 2 ∧ Std K TT p l o ms i H ∧ GV K p H vf df, ?_, ?_⟩
    · obtain ⟨m1, L1⟩ := S1.pen
      refine ⟨_, rfl, p, l, ms, _, _, 4, rfl, L1, by omega, by decide, by decide, fun d2 i2 n2 H2 d20 d29 Lb hi2 k2 => ⟨_, _, rfl, rfl, _, rfl, ?_⟩⟩
      have S2 := S1.draw Lb k2
      refine ite2 (fun _ => ?_) (fun _ => ?_)
      · refine ⟨rfl, fun H3 D xs s3 hD0 hD htt => ?_⟩
        have L3 := Lb.same s3
        have S3 := S2.same s3
        refine ⟨_, rfl, p, l, ms, _, _, 36, rfl, L3, by omega, by decide, by decide, fun d4 i4 n4 H4 d40 d49 L4 hi4 k4 => ?_⟩
        have nDp : D ≠ p := fun z => by rw [z, Lb.hp] at hD0; cases hD0
        have lx : xs.length = 36 := htt.len.trans figs_len
        obtain ⟨x, hx, hat⟩ := at_some (l := xs) d40 (by rw [lx]; exact d49)
        have hi : d4.toNat < (figsTo 6).length := by rw [figs_len]; omega
        obtain ⟨q, ks, eq, ek, hq⟩ := htt.get hi
        rw [eq] at hx
        cases hx
        refine ⟨D, xs, _, _, rfl, rfl, SqL.of (k4 _ _ nDp hD), hat, ?_⟩
        have nq : q ≠ p := ne_of hq L3.hp (fun z => nomatch z)
        have g : GV K p H4 (.ref q) (.tuple (ks.map PyData.int)) := ⟨.tup (SqT.of (by rw [wo_at nq]; exact k4 _ _ nq hq)) (dv_ints ks), figs_sm (List.mem_of_getElem? ek)⟩
        exact ⟨_, _, _, rfl, by omega, S3.draw L4 k4, g⟩
      · obtain ⟨vs, eo, do_⟩ := S2.odd.ex
        have hl : vs.length = 40 := do_.len.trans odd_len
        obtain ⟨nn, LL⟩ := S2.pen
        refine ⟨_, rfl, _, rfl, _, rfl, o, vs, rfl, .inl (SqL.of (wo_some eo).2), p, l, ms, _, _, _, rfl, LL, by omega, by rw [hl]; decide, by rw [hl]; decide, fun dd i9 n9 H9 dd0 dd9 L9 hi9 k9 => ?_⟩
        rw [hl] at dd9
        have q9 := wo_keep (p := p) k9
        obtain ⟨x, d, hat, hd, gd⟩ := allAt (do_.same q9) dd0 (by rw [hl]; exact dd9)
        have gg := odd_good.get gd
        refine ⟨o, vs, _, x, rfl, rfl, SqL.of (wo_some (q9 _ _ eo)).2, hat, ?_⟩
        have S9 := S2.draw L9 k9
        exact ⟨_, _, _, rfl, by omega, S9, ⟨hd, gg.1⟩⟩
    rintro σ H1 ⟨vf, df, i1, rfl, hi1, S1, gf⟩
    refine ⟨fun σ H => ∃ vc dc i, σ = [some (.ref a), some (.ref p), some (.ref o), some vf, x4, some (.int (0 + (t : Nat))), some vc, x7, x8, x9, x10, none] ∧ i ≤ 10 * (t : Int) + 4 ∧ Std K TT p l o ms i H ∧ GV K p H vf df ∧ GV K p H vc dc, ?_, ?_⟩
    · obtain ⟨m1, L1⟩ := S1.pen
      refine ⟨_, rfl, p, l, ms, _, _, 4, rfl, L1, by omega, by decide, by decide, fun d2 i2 n2 H2 d20 d29 Lb hi2 k2 => ⟨_, _, rfl, rfl, _, rfl, ?_⟩⟩
      have S2 := S1.draw Lb k2
      have gf2 := gf.step (wo_keep k2)
      refine ite2 (fun _ => ?_) (fun _ => ?_)
      · refine ⟨_, rfl, p, l, ms, _, _, 32, rfl, Lb, by omega, by decide, by decide, fun d4 i4 n4 H4 d40 d49 L4 hi4 k4 => ?_⟩
        exact ⟨_, .int d4, _, rfl, by omega, S2.draw L4 k4, gf2.step (wo_keep k4), .int _, sm_int (by omega) (by omega)⟩
      · obtain ⟨vs, eo, do_⟩ := S2.odd.ex
        have hl : vs.length = 40 := do_.len.trans odd_len
        obtain ⟨nn, LL⟩ := S2.pen
        refine ⟨_, rfl, _, rfl, _, rfl, o, vs, rfl, .inl (SqL.of (wo_some eo).2), p, l, ms, _, _, _, rfl, LL, by omega, by rw [hl]; decide, by rw [hl]; decide, fun dd i9 n9 H9 dd0 dd9 L9 hi9 k9 => ?_⟩
        rw [hl] at dd9
        have q9 := wo_keep (p := p) k9
        obtain ⟨x, d, hat, hd, gd⟩ := allAt (do_.same q9) dd0 (by rw [hl]; exact dd9)
        have gg := odd_good.get gd
        refine ⟨o, vs, _, x, rfl, rfl, SqL.of (wo_some (q9 _ _ eo)).2, hat, ?_⟩
        have S9 := S2.draw L9 k9
        exact ⟨_, _, _, rfl, by omega, S9, gf2.step q9, hd, gg.1⟩
    rintro σ H1 ⟨vc, dc, i1, rfl, hi1, S1, gf, gc⟩
    refine ⟨fun σ H => ∃ vg dg i, σ = [some (.ref a), some (.ref p), some (.ref o), some vf, x4, some (.int (0 + (t : Nat))), some vc, some vg, x8, x9, x10, none] ∧ i ≤ 10 * (t : Int) + 5 ∧ Std K TT p l o ms i H ∧ GV K p H vf df ∧ GV K p H vc dc ∧ GV K p H vg dg, ?_, ?_⟩
    · refine ⟨by show 0 ≤ sizeLine; exact Nat.zero_le _, fun q1 hq1 => ⟨by show 9 ≤ sizeLine; decide, fun q2 hq2 => ?_⟩⟩
      have sA : Same H1 (upd (upd H1 q1 (.tup [])) q2 (.lst [.bl true, .bl false, .bl true, .bl false, .non, .int 0, .int 1, .str "", .ref q1])) := (sameN hq1).trans (sameN hq2)
      have S2 := S1.same sA
      have gf2 := gf.step (wo_same sA)
      have gc2 := gc.step (wo_same sA)
      obtain ⟨m1, L1⟩ := S1.pen
      have n1p : q1 ≠ p := fun z => by rw [z, L1.hp] at hq1; cases hq1
      have e1 : (upd (upd H1 q1 (.tup [])) q2 (.lst [.bl true, .bl false, .bl true, .bl false, .non, .int 0, .int 1, .str "", .ref q1])) q1 = some (.tup []) := sameN hq2 _ _ upd_same
      have e2 : (upd (upd H1 q1 (.tup [])) q2 (.lst [.bl true, .bl false, .bl true, .bl false, .non, .int 0, .int 1, .str "", .ref q1])) q2 = some (.lst [.bl true, .bl false, .bl true, .bl false, .non, .int 0, .int 1, .str "", .ref q1]) := upd_same
      have n2p : q2 ≠ p := fun z => by rw [z] at hq2; have zz := sameN (o := .tup []) hq1 _ _ L1.hp; rw [zz] at hq2; cases hq2
      generalize (upd (upd H1 q1 (.tup [])) q2 (.lst [.bl true, .bl false, .bl true, .bl false, .non, .int 0, .int 1, .str "", .ref q1])) = H2 at sA S2 gf2 gc2 e1 e2 ⊢
      obtain ⟨m2, Lb⟩ := S2.pen
      refine ⟨_, rfl, p, l, ms, _, _, 9, rfl, Lb, by omega, by decide, by decide, fun d4 i4 n4 H4 d40 d49 L4 hi4 k4 => ?_⟩
      have da : DvAll K (wo p H4) [.bl true, .bl false, .bl true, .bl false, .non, .int 0, .int 1, .str "", .ref q1] [.bool true, .bool false, .bool true, .bool false, .none, .int 0, .int 1, .str "", .tuple []] :=
        .cons (.bl _) (.cons (.bl _) (.cons (.bl _) (.cons (.bl _) (.cons .non (.cons (.int _) (.cons (.int _) (.cons (.str _) (.cons (.tup (SqT.of (by rw [wo_at n1p]; exact k4 _ _ n1p e1)) .nil) .nil))))))))
      obtain ⟨x, d, hat, hd, gd⟩ := allAt da d40 d49
      have sm : SmR d := by
        have hm := List.mem_of_getElem? gd
        simp only [List.mem_cons, List.not_mem_nil, or_false] at hm
        rcases hm with rfl | rfl | rfl | rfl | rfl | rfl | rfl | rfl | rfl
        · exact odg1.1
        · exact odg2.1
        · exact odg1.1
        · exact odg2.1
        · exact odg0.1
        · exact sm_int (by decide) (by decide)
        · exact sm_int (by decide) (by decide)
        · exact odg10.1
        · exact odg11.1
      refine ⟨q2, _, _, x, rfl, rfl, SqL.of (k4 _ _ n2p e2), hat, ?_⟩
      exact ⟨x, d, _, rfl, by omega, S2.draw L4 k4, gf2.step (wo_keep k4), gc2.step (wo_keep k4), hd, sm⟩
    rintro σ H1 ⟨vg, dg, i1, rfl, hi1, S1, gf, gc, gg0⟩
    refine ⟨fun σ H => ∃ vp dp i, σ = [some (.ref a), some (.ref p), some (.ref o), some vf, x4, some (.int (0 + (t : Nat))), some vc, some vg, some vp, x9, x10, none] ∧ i ≤ 10 * (t : Int) + 8 ∧ Std K TT p l o ms i H ∧ GV K p H vf df ∧ GV K p H vc dc ∧ GV K p H vg dg ∧ GV K p H vp dp ∧ SpotD dp, ?_, ?_⟩
    · obtain ⟨m1, L1⟩ := S1.pen
      refine ⟨_, rfl, p, l, ms, _, _, 3, rfl, L1, by omega, by decide, by decide, fun d2 i2 n2 H2 d20 d29 Lb hi2 k2 => ⟨_, _, rfl, rfl, _, rfl, ?_⟩⟩
      have S2 := S1.draw Lb k2
      have gf2 := gf.step (wo_keep k2)
      have gc2 := gc.step (wo_keep k2)
      have gg2 := gg0.step (wo_keep k2)
      refine ite2 (fun _ => ?_) (fun _ => ?_)
      · obtain ⟨vs, eo, do_⟩ := S2.odd.ex
        have hl : vs.length = 40 := do_.len.trans odd_len
        obtain ⟨nn, LL⟩ := S2.pen
        refine ⟨_, rfl, _, rfl, _, rfl, o, vs, rfl, .inl (SqL.of (wo_some eo).2), p, l, ms, _, _, _, rfl, LL, by omega, by rw [hl]; decide, by rw [hl]; decide, fun dd i9 n9 H9 dd0 dd9 L9 hi9 k9 => ?_⟩
        rw [hl] at dd9
        have q9 := wo_keep (p := p) k9
        obtain ⟨x, d, hat, hd, gd⟩ := allAt (do_.same q9) dd0 (by rw [hl]; exact dd9)
        have gg := odd_good.get gd
        refine ⟨o, vs, _, x, rfl, rfl, SqL.of (wo_some (q9 _ _ eo)).2, hat, ?_⟩
        have S9 := S2.draw L9 k9
        exact ⟨_, _, _, rfl, by omega, S9, gf2.step q9, gc2.step q9, gg2.step q9, ⟨hd, gg.1⟩, gg.2⟩
      · refine ⟨_, rfl, p, l, ms, _, _, 3, rfl, Lb, by omega, by decide, by decide, fun d4 i4 n4 H4 d40 d49 L4 hi4 k4 => ?_⟩
        refine ⟨_, rfl, p, l, ms, _, _, 34, rfl, L4, by omega, by decide, by decide, fun d5 i5 n5 H5 d50 d59 L5 hi5 k5 => ⟨_, _, rfl, rfl, by show 2 ≤ sizeLine; decide, fun q hq => ?_⟩⟩
        have S5 := ((S2.draw L4 k4).draw L5 k5).same (sameN (o := .tup [.int d4, .int (d5 - 1)]) hq)
        have q5 := ((wo_keep (p := p) k4).trans (wo_keep k5)).trans (wo_same (sameN (o := .tup [.int d4, .int (d5 - 1)]) hq))
        have X := stepN (o := .tup [.int d4, .int (d5 - 1)]) L5.hp hq
        exact ⟨.ref q, .tuple [.int d4, .int (d5 - 1)], _, rfl, by omega, S5, gf2.step q5, gc2.step q5, gg2.step q5, ⟨dv_pair X.2, sm_pair (by omega) (by omega) (by omega) (by omega)⟩, spotD_pair _ _⟩
    rintro σ H1 ⟨vp, dp, i1, rfl, hi1, S1, gf, gc, gg0, gp, sp⟩
    refine ⟨fun σ H => ∃ vw dw i, σ = [some (.ref a), some (.ref p), some (.ref o), some vf, x4, some (.int (0 + (t : Nat))), some vc, some vg, some vp, some vw, x10, none] ∧ i ≤ 10 * (t : Int) + 10 ∧ Std K TT p l o ms i H ∧ GV K p H vf df ∧ GV K p H vc dc ∧ GV K p H vg dg ∧ GV K p H vp dp ∧ GV K p H vw dw, ?_, ?_⟩
    · obtain ⟨m1, L1⟩ := S1.pen
      refine ⟨_, rfl, p, l, ms, _, _, 3, rfl, L1, by omega, by decide, by decide, fun d2 i2 n2 H2 d20 d29 Lb hi2 k2 => ⟨_, _, rfl, rfl, _, rfl, ?_⟩⟩
      have S2 := S1.draw Lb k2
      have gf2 := gf.step (wo_keep k2)
      have gc2 := gc.step (wo_keep k2)
      have gg2 := gg0.step (wo_keep k2)
      have gp2 := gp.step (wo_keep k2)
      refine ite2 (fun _ => ?_) (fun _ => ?_)
      · refine ⟨_, rfl, p, l, ms, _, _, 6, rfl, Lb, by omega, by decide, by decide, fun d4 i4 n4 H4 d40 d49 L4 hi4 k4 => ?_⟩
        have q4 := wo_keep (p := p) k4
        exact ⟨_, .int d4, _, rfl, by omega, S2.draw L4 k4, gf2.step q4, gc2.step q4, gg2.step q4, gp2.step q4, .int _, sm_int (by omega) (by omega)⟩
      · obtain ⟨vs, eo, do_⟩ := S2.odd.ex
        have hl : vs.length = 40 := do_.len.trans odd_len
        obtain ⟨nn, LL⟩ := S2.pen
        refine ⟨_, rfl, _, rfl, _, rfl, o, vs, rfl, .inl (SqL.of (wo_some eo).2), p, l, ms, _, _, _, rfl, LL, by omega, by rw [hl]; decide, by rw [hl]; decide, fun dd i9 n9 H9 dd0 dd9 L9 hi9 k9 => ?_⟩
        rw [hl] at dd9
        have q9 := wo_keep (p := p) k9
        obtain ⟨x, d, hat, hd, gd⟩ := allAt (do_.same q9) dd0 (by rw [hl]; exact dd9)
        have gg := odd_good.get gd
        refine ⟨o, vs, _, x, rfl, rfl, SqL.of (wo_some (q9 _ _ eo)).2, hat, ?_⟩
        have S9 := S2.draw L9 k9
        exact ⟨_, _, _, rfl, by omega, S9, gf2.step q9, gc2.step q9, gg2.step q9, gp2.step q9, hd, gg.1⟩
    rintro σ H1 ⟨vw, dw, i1, rfl, hi1, S1, gf, gc, gg0, gp, gw⟩
    have ok := seen_ok gf.2 gc.2 gg0.2 gp.2 gw.2
    refine ⟨_, rfl, _, rfl, _, rfl, _, rfl, _, rfl, by show 5 ≤ sizeLine; decide, fun q1 hq1 => ?_⟩
    have sA := sameN (o := .lst [vf, vc, vg, vp, vw]) hq1
    have S2 := S1.same sA
    have dA : Dv K (upd H1 q1 (.lst [vf, vc, vg, vp, vw])) (.ref q1) (.list [df, dc, dg, dp, dw]) := .lst (SqL.of upd_same) (.cons (gf.dv.same sA) (.cons (gc.dv.same sA) (.cons (gg0.dv.same sA) (.cons (gp.dv.same sA) (.cons (gw.dv.same sA) .nil)))))
    refine ⟨.ref q1, _, rfl, dA, ok.1, ok.2.1, ok.2.2, ?_⟩
    generalize upd H1 q1 (.lst [vf, vc, vg, vp, vw]) = H2 at sA S2 dA ⊢
    refine ⟨_, rfl, _, rfl, _, rfl, _, rfl, vf, vc, vg, vp, df, dc, dg, dp, rfl, gf.dv.same sA, gc.dv.same sA, gg0.dv.same sA, gp.dv.same sA, sp, gp.2.ok, tabs_le S2.tabs, fun H3 x3 t3 => ⟨_, rfl, iteNb rfl ?_⟩⟩
    have S3 := S2.ext x3 t3
    refine ⟨_, rfl, _, rfl, vc, vw, dc, dw, rfl, (gc.dv.same sA).extN x3, (gw.dv.same sA).extN x3, t3, fun H4 x4 t4 => ⟨_, rfl, iteNb rfl ?_⟩⟩
    have S4 := S3.ext x4 t4
    have x34 := x3.trans x4
    refine ⟨_, rfl, _, rfl, _, rfl, _, rfl, _, rfl, by show 5 ≤ sizeLine; decide, fun q2 hq2 => ?_⟩
    have sB := sameN (o := .lst [vf, vc, vg, vp, vw]) hq2
    have up : ∀ {v d}, GV K p H1 v d → Dv K (upd H4 q2 (.lst [vf, vc, vg, vp, vw])) v d := fun g => ((g.dv.same sA).extN x34).same sB
    refine ⟨.ref q2, .list [df, dc, dg, dp, dw], rfl, .lst (SqL.of upd_same) (.cons (up gf) (.cons (up gc) (.cons (up gg0) (.cons (up gp) (.cons (up gw) .nil))))), ok.1, ok.2.1, ok.2.2, _, rfl, rfl, _, rfl, iteNb (eqs _) ?_⟩
    exact ⟨⟨_, _, _, _, _, _, _, _, rfl⟩, i1, by push_cast; omega, S4.same sB⟩
end
end Own
/-! The end for a law that shows data and makes lambdas: the script and the tables are all that is tracked at the call. -/
namespace Own
open PySem PySem.Spec PyProof.Rows L2
/-- the heap that is tracked at the law's call -/
def atLaw (K : PySem.W.Frag) (a : Addr) (os : Obj) (ns : List Int) (T : List Addr) : Hp := fun b =>
  if b ∈ T then some (.tbl #[]) else if b = a ∧ K.lookup a = none then some (.frz os (.lst (ns.map V.int))) else none
section
variable {K : PySem.W.Frag} {a : Addr} {os : Obj} {ns : List Int} {T : List Addr}
theorem atLaw_tab {b : Addr} (h : b ∈ T) : atLaw K a os ns T b = some (.tbl #[]) := if_pos h
theorem atLaw_inv {b : Addr} {o : HO} (h : atLaw K a os ns T b = some o) : (b ∈ T ∧ o = .tbl #[]) ∨ (b = a ∧ K.lookup a = none ∧ o = .frz os (.lst (ns.map V.int))) := by
  by_cases m : b ∈ T
  · rw [atLaw_tab m] at h
    exact .inl ⟨m, (Option.some.inj h).symm⟩
  · by_cases e : b = a ∧ K.lookup a = none
    · have z : atLaw K a os ns T b = some (.frz os (.lst (ns.map V.int))) := (if_neg m).trans (if_pos e)
      rw [z] at h
      exact .inr ⟨e.1, e.2, (Option.some.inj h).symm⟩
    · have z : atLaw K a os ns T b = none := (if_neg m).trans (if_neg e)
      rw [z] at h
      cases h
theorem atLaw_none {b : Addr} (h1 : b ∉ T) (h2 : b ≠ a ∨ ∃ o, K.lookup b = some o) : atLaw K a os ns T b = none := by
  cases q : atLaw K a os ns T b with
  | none => rfl
  | some o =>
    rcases atLaw_inv q with ⟨m, _⟩ | ⟨e, n, _⟩
    · exact absurd m h1
    · rcases h2 with h2 | ⟨o, h2⟩
      · exact absurd e h2
      · rw [e, n] at h2
        cases h2
end
theorem law_gT {P : Program} {w : World} {K : PySem.W.Frag} {mg mb : Str → Option Value} {k : Nat} {fa a : Addr} {cs : List (Addr × Addr)} {fd : FuncData} {x : Str} {sp : Sp} {s₁ : Shared} {us : List Value} {ns : List Int}
    (KX : K.In s₁.heap) (hm : s₁.heap.Ns mainGlobals mg) (hb : s₁.heap.Ns builtinsNs mb) (hbb : ∀ y : Str, y ≠ "__name__" → mb y = bootBuiltins y) (hlim : s₁.heap.NoLimit) (hg : s₁.gens = #[])
    (tab : ∀ p ∈ cs, s₁.heap.get? p.2 = some { cls := .none, data := .fields #[] }) (ntab : ∀ p ∈ cs, K.lookup p.2 = none) (code : ∀ p ∈ cs, PySem.W.CodeHd s₁.heap p.1 p.2)
    (bmod : ∃ (bm : Addr) (ob : Obj), mg "__builtins__" = some (.ref bm) ∧ bm ≠ builtinsNs ∧ s₁.heap.get? bm = some ob ∧ ob.cls = .type "module" ∧ ob.dict = some builtinsNs ∧ ob.data = .plain)
    (ha : s₁.heap.get? a = some { cls := .type "list", data := .seq us.toArray }) (hi : IntsAre us ns) (hl : ns.length ≤ sizeLine) (hr : Room k callerA)
    (F : ∀ base : Heap, K.In base → base.Ns mainGlobals mg → (∀ p ∈ cs, LamX.TabB base mg p.1 p.2) → GFn P w K mg base CX0 k fa fd [x] sp) (hbind : ∀ (s : Shared) (u : Value), BindsTo s fd ⟨[u], []⟩ [(x, u)])
    (hsp : ∀ H : Hp, (∀ p ∈ cs, H p.2 = some (.tbl #[])) → SqL K H a (ns.map V.int) → sp [.ref a] H (fun v _ => v = .bl true) fun _ _ _ => False) :
    codeAny (model P w) callerA (.call (.ref fa) ⟨[.ref a], []⟩) (fun r s' => r = .ok (.ret (.bool true)) ∧ PySem.OldK s₁.heap s'.heap ∧ s'.os = s₁.os ∧ AllBare s'.gens) s₁ := by
  have rv := vals_ints hi
  obtain ⟨T, eT⟩ : ∃ T, T = cs.map (·.2) := ⟨_, rfl⟩
  have inT : ∀ p ∈ cs, p.2 ∈ T := fun p hp => by rw [eT]; exact List.mem_map.mpr ⟨p, hp, rfl⟩
  have ofT : ∀ b ∈ T, ∃ p ∈ cs, p.2 = b := fun b hb => by rw [eT] at hb; exact List.mem_map.mp hb
  have getT : ∀ b ∈ T, s₁.heap.get? b = some { cls := .none, data := .fields #[] } := fun b hb => by
    obtain ⟨p, hp, rfl⟩ := ofT b hb
    exact tab p hp
  have aT : a ∉ T := fun z => by
    have q := getT a z
    rw [ha] at q
    have q2 := congrArg Obj.data (Option.some.inj q)
    cases q2
  -- what is tracked is no dict, no filled record, no plain thing
  obtain ⟨H, eH⟩ : ∃ H, H = atLaw K a { cls := .type "list", data := .seq us.toArray } ns T := ⟨_, rfl⟩
  have free : ∀ {b : Addr} {o : Obj}, s₁.heap.get? b = some o → (∀ vs n, o.data ≠ .seq vs n) → o.data ≠ .fields #[] → H b = none := fun {b o} e n1 n2 => by
    rw [eH]
    refine atLaw_none (fun m => ?_) (.inl fun z => ?_)
    · rw [getT b m] at e
      cases e
      exact n2 rfl
    · rw [z, ha] at e
      cases e
      exact n1 _ _ rfl
  have freeD : ∀ {b : Addr} {o : Obj} {es : Array DictEntry} {ep : Nat}, s₁.heap.get? b = some o → o.data = .dict es ep → H b = none := fun e d => free e (fun vs n z => by rw [d] at z; cases z) fun z => by rw [d] at z; cases z
  have freeK : ∀ {b : Addr} {o : Obj}, K.lookup b = some o → H b = none := fun {b o} e => by
    rw [eH]
    refine atLaw_none (fun m => ?_) (.inr ⟨o, e⟩)
    obtain ⟨p, hp, rfl⟩ := ofT b m
    rw [ntab p hp] at e
    cases e
  have tabs : ∀ p ∈ cs, H p.2 = some (.tbl #[]) := fun p hp => by rw [eH]; exact atLaw_tab (inT p hp)
  have seq : SqL K H a (ns.map V.int) := by
    cases q : K.lookup a with
    | none => exact .inl (.inr ⟨_, by rw [eH]; exact (if_neg aT).trans (if_pos ⟨rfl, q⟩)⟩)
    | some o =>
      have e := KX a o q
      rw [ha] at e
      cases e
      exact .inr ⟨_, us.toArray, _, q, rfl, rfl, rfl, by rw [List.size_toArray, hi.length]; exact hl, by simpa using rv⟩
  have hok : HOk P w H s₁.heap := fun b u z => by
    rw [eH] at z
    rcases atLaw_inv z with ⟨m, rfl⟩ | ⟨rfl, _, rfl⟩
    · exact getT b m
    · exact ⟨ha, by rw [List.length_map]; exact hl, us, _, rv, ha⟩
  have ns2 : ∀ {b : Addr} {m : Str → Option Value}, s₁.heap.Ns b m → (hidT s₁.heap H).Ns b m := fun {b m} h => by
    obtain ⟨o, es, ep, e, d, r⟩ := h
    exact ⟨o, es, ep, hidT_get e (freeD e d), d, r⟩
  have hK : K.In (hidT s₁.heap H) := fun b o e => hidT_get (KX b o e) (freeK e)
  have hM : L2.Mod K mg (hidT s₁.heap H) := ⟨hK, ns2 hm, ⟨mb, ns2 hb, hbb⟩, by
    obtain ⟨mc, h1, h2⟩ := hlim
    exact ⟨mc, ns2 h1, h2⟩⟩
  have noGl : ∀ {b : Addr} {o : Obj}, s₁.heap.get? b = some o → (∀ es ep, o.data ≠ .dict es ep) → b ≠ mainGlobals := fun e n z => by
    obtain ⟨o', es, ep, e', d, _⟩ := hm
    rw [z, e'] at e
    cases e
    exact n _ _ d
  have TB : ∀ p ∈ cs, LamX.TabB (hidT s₁.heap H) mg p.1 p.2 := fun p hp => by
    refine ⟨?_, ?_, (noGl (tab p hp) (fun _ _ z => nomatch z)).symm⟩
    · obtain ⟨o, vs, fl, tf, fg, tg, inF, tx, tt, e1, r1, r2, r3, rest⟩ := code p hp
      refine ⟨o, vs, fl, tf, fg, tg, inF, tx, tt, hidT_get e1 (free e1 (fun vs n z => ?_) fun z => ?_), r1, r2, r3, rest⟩
      · rw [r2] at z
        cases z
      · rw [r2] at z
        cases z
        simp at r3
    · obtain ⟨bm, ob, b1, b2, b3, b4, b5, b6⟩ := bmod
      refine ⟨bm, ob, b1, b2, noGl b3 (fun _ _ z => by rw [b6] at z; cases z), fun z => ?_, hidT_get b3 (free b3 (fun vs n z => by rw [b6] at z; cases z) fun z => by rw [b6] at z; cases z), b4, b5, b6⟩
      rw [z, tab p hp] at b3
      cases b3
      cases b6
  have e0 : Env0 P w K mg (hidT s₁.heap H) callerA [] s₁ H := ⟨rfl, hM, fun b o e => of_hidT e, Nat.le_of_eq (hidT_size _ _), trivial, (by simp [frs]), hok, .of_eq hg⟩
  refine codeAny_mono ((F _ hK (ns2 hm) TB).run callerA [] s₁ H ⟨[.ref a], []⟩ [.ref a] [.ref a] _ _ rfl hr e0 (hbind s₁ (.ref a)) (.cons rfl .nil) (hsp H tabs seq)) fun r s' h => ?_
  rcases r with e | fl
  · exact False.elim h
  cases fl with
  | next => exact False.elim h
  | brk => exact False.elim h
  | cont => exact False.elim h
  | ret u =>
    obtain ⟨v, H', os, bare, un, hok', r', q⟩ := h
    obtain rfl : v = .bl true := q
    obtain rfl : u = Value.bool true := r'
    have old : ∀ b o, b ∉ T → s₁.heap.get? b = some o → s'.heap.get? b = some o := fun b o nb e => by
      cases z : H b with
      | none => exact un.keep b o e z (by simp [frs]) (by simp)
      | some y =>
        have z2 := z
        rw [eH] at z2
        rcases atLaw_inv z2 with ⟨m, _⟩ | ⟨rfl, _, rfl⟩
        · exact absurd m nb
        · rw [ha] at e
          cases e
          exact (hok' _ _ (un.frzs _ _ _ z)).1
    have grown : ∀ p ∈ cs, ∃ more : Array Value, s'.heap.get? p.2 = some { cls := .none, data := .fields more } := fun p hp => by
      obtain ⟨more, z⟩ := un.tbls p.2 #[] (tabs p hp)
      exact ⟨_, hok' p.2 _ z⟩
    refine ⟨rfl, ⟨fun b o e => ?_, fun b o e => ?_⟩, os, bare⟩
    · by_cases m : b ∈ T
      · obtain ⟨p, hp, rfl⟩ := ofT b m
        obtain ⟨more, z⟩ := grown p hp
        rw [tab p hp] at e
        cases e
        exact .inr (.inl ⟨((code p hp).tab (tab p hp)).isCodeTable, rfl, #[], more, rfl, by rw [Array.empty_append]; exact z⟩)
      · exact .inl (old b o m e)
    · by_cases m : b ∈ T
      · obtain ⟨p, hp, rfl⟩ := ofT b m
        obtain ⟨more, z⟩ := grown p hp
        exact ⟨_, z⟩
      · exact ⟨o, old b o m e⟩
/-- the end, where the written part is chosen at the law's call -/
theorem walk_gT {l : PySem.W.OpenLaw} {n k : Nat} {q : Program} {loose : List Str} {XP : (Str → Option Value) → Heap → Prop} {YP : World → Heap → Prop} {d : DefRec} {x : Str}
    (hn : l.most = some n) (hn2 : n ≤ sizeLine) (hdf : d.params.defaults = []) (hr : Room k callerA)
    (F : ∀ (w : World) (mg : Str → Option Value) (fa : Addr) (h : Heap), YP w h → h.Ns mainGlobals mg → mg d.name = some (.ref fa) →
      ∃ (K : PySem.W.Frag) (fd : FuncData) (cs : List (Addr × Addr)) (sp : Sp), K.In h ∧ (∀ p ∈ cs, h.get? p.2 = some { cls := .none, data := .fields #[] }) ∧ (∀ p ∈ cs, K.lookup p.2 = none) ∧ (∀ p ∈ cs, PySem.W.CodeHd h p.1 p.2) ∧
        (∀ (s : Shared) (u : Value), BindsTo s fd ⟨[u], []⟩ [(x, u)]) ∧
        (∀ (H : Hp) (a : Addr) (ns : List Int), ns.length ≤ n → (∀ p ∈ cs, H p.2 = some (.tbl #[])) → SqL K H a (ns.map V.int) → sp [.ref a] H (fun v _ => v = .bl true) fun _ _ _ => False) ∧
        ∀ base : Heap, K.In base → base.Ns mainGlobals mg → (∀ p ∈ cs, LamX.TabB base mg p.1 p.2) → GFn l.prog w K mg base CX0 k fa fd [x] sp) :
    PySem.W.WalkO q loose XP YP l.row.toRowW d [] (fun f vs => PySem.call f vs) := by
  refine Att.attach_callB hn hdf fun w s₀ s₁ mg mb fa o pm cd doc a vs ns G Y ho hd hcd hmg hobj hints hlen hbits hg => ?_
  obtain ⟨K, fd, cs, sp, KX, hT, nT, C, hb, hsp, hF⟩ := F w mg fa _ Y G.T.g hmg
  exact law_gT KX G.T.g G.T.b G.T.builtins G.T.nolimit hg hT nT C G.T.bmain hobj hints (Nat.le_trans hlen hn2) hr hF hb fun H hH hS => hsp H a ns hlen hH hS
end Own
namespace Own
open PySem PySem.Spec PyProof.Rows L2
def bVE1 : List Value := [.type "ValueError", .type "Exception", .type "BaseException", .type "object"]
/-- what one error class must say -/
def chkE (K : PySem.W.Frag) (C : Addr) : Bool :=
  PySem.W.keepIn K (.ref C) && PySem.W.excIn K C bVE1 "ValueError.__new__" && (PySem.W.typeIn K (.ref C) == some (.type "type")) &&
  (PySem.W.findIn K (.ref C) "__getattribute__" == some (some (.builtin "BaseException.__getattribute__"))) && (PySem.W.findIn K (.ref C) "__getattr__" == some none) && (PySem.W.subIn K (.ref C) (.type "BaseException") == some true) &&
  PySem.W.hasDictIn K C && (PySem.W.findIn K (.ref C) "__class__" == some (some (.builtin "object.__class__"))) && (PySem.W.specialIn K (.builtin "object.__class__") "__get__" == some (some (.builtin "getset_descriptor.__get__"))) &&
  (PySem.W.takesIn K (.builtin "object.__class__") == some true) && (PySem.W.mroIn K C (.type "object") == some true) && (PySem.W.kitOne K (.ref C) (.type "ValueError") == some true) && (PySem.W.kitOne K (.type "NoneType") (.ref C) == some false)
theorem chkE_k {K : PySem.W.Frag} {C : Addr} (h : chkE K C = true) : PySem.W.keepIn K (.ref C) = true ∧ PySem.W.excIn K C bVE1 "ValueError.__new__" = true ∧ PySem.W.typeIn K (.ref C) = some (.type "type") ∧ ExcC K C ∧ PySem.W.kitOne K (.ref C) (.type "ValueError") = some true ∧ PySem.W.kitOne K (.type "NoneType") (.ref C) = some false := by
  unfold chkE at h
  simp only [Bool.and_eq_true, beq_iff_eq] at h
  obtain ⟨⟨⟨⟨⟨⟨⟨⟨⟨⟨⟨⟨h1, h2⟩, h3⟩, h4⟩, h5⟩, h6⟩, h7⟩, h8⟩, h9⟩, h10⟩, h11⟩, h12⟩, h13⟩ := h
  exact ⟨h1, h2, h3, ⟨h4, h5, h6, h7, h8, h9, h10, h11⟩, h12, h13⟩
def chkEs (K : PySem.W.Frag) (Cs : List Addr) (cE : Addr) : Bool :=
  (List.range Cs.length).all fun i => chkE K (Cs.getD i 0) && (PySem.W.exmOne K (.ref (Cs.getD i 0)) (.ref cE) == some true) && (List.range Cs.length).all fun j => PySem.W.kitOne K (.ref (Cs.getD i 0)) (.ref (Cs.getD j 0)) == some (decide (i = j))
theorem chkEs_k {K : PySem.W.Frag} {Cs : List Addr} {cE : Addr} (h : chkEs K Cs cE = true) {i : Nat} (hi : i < Cs.length) : chkE K (Cs.getD i 0) = true ∧ PySem.W.exmOne K (.ref (Cs.getD i 0)) (.ref cE) = some true ∧ ∀ j, j < Cs.length → PySem.W.kitOne K (.ref (Cs.getD i 0)) (.ref (Cs.getD j 0)) = some (decide (i = j)) := by
  have z := List.all_eq_true.mp h i (List.mem_range.mpr hi)
  rw [Bool.and_eq_true, Bool.and_eq_true, beq_iff_eq] at z
  exact ⟨z.1.1, z.1.2, fun j hj => beq_iff_eq.mp (List.all_eq_true.mp z.2 j (List.mem_range.mpr hj))⟩
theorem erC_of {K : PySem.W.Frag} {mg : Str → Option Value} {x : Str} {C : Addr} (g : mg x = some (.ref C)) (h : chkE K C = true) : ErC K mg x C := by
  obtain ⟨h1, h2, h3, h4, _, _⟩ := chkE_k h
  exact ⟨h2, g, h1, h4.hs, h3⟩

theorem all_mk {w : World} {K : PySem.W.Frag} {h : Heap} {mg : Str → Option Value} {fa f0 f1 f2 f3 f4 f5 f6 f7 f8 f9 f10 f11 f12 f13 f14 f15 f16 f17 f18 f19 f20 f21 f22 f23 f24 a0 a1 a2 a3 a4 cx21 cx22 t21 t22 : Addr} (X : K.In h) (tb : ∀ P ∈ [t22, t21], h.get? P = some (PySem.W.tabObj #[])) (G : h.Ns mainGlobals mg) (hfa : mg "law" = some (.ref fa))
    {od0 an0 od1 an1 od2 an2 od3 an3 od4 an4 od5 an5 od6 an6 od7 an7 od8 an8 od9 an9 od10 an10 od11 an11 od12 an12 od13 an13 od14 an14 od15 an15 od16 an16 od17 an17 od18 an18 od19 an19 od20 an20 od21 an21 od22 an22 od23 an23 od24 an24 : Option Addr} {sl0 sl1 sl2 sl3 sl4 sl5 sl6 sl7 sl8 sl9 sl10 sl11 sl12 sl13 sl14 sl15 sl16 sl17 sl18 sl19 sl20 sl21 sl22 sl23 sl24 : Array (Option Value)} {oc0 kV0 dc0 pm0 ct0 oc1 kV1 dc1 pm1 ct1 oc2 kV2 dc2 pm2 ct2 oc3 kV3 dc3 pm3 ct3 oc4 kV4 dc4 pm4 ct4 oc5 kV5 dc5 pm5 ct5 oc6 kV6 dc6 pm6 ct6 oc7 kV7 dc7 pm7 ct7 oc8 kV8 dc8 pm8 ct8 oc9 kV9 dc9 pm9 ct9 oc10 kV10 dc10 pm10 ct10 oc11 kV11 dc11 pm11 ct11 oc12 kV12 dc12 pm12 ct12 oc13 kV13 dc13 pm13 ct13 oc14 kV14 dc14 pm14 ct14 oc15 kV15 dc15 pm15 ct15 oc16 kV16 dc16 pm16 ct16 oc17 kV17 dc17 pm17 ct17 oc18 kV18 dc18 pm18 ct18 oc19 kV19 dc19 pm19 ct19 oc20 kV20 dc20 pm20 ct20 oc21 kV21 dc21 pm21 ct21 oc22 kV22 dc22 pm22 ct22 oc23 kV23 dc23 pm23 ct23 oc24 kV24 dc24 pm24 ct24 cd0 cd1 cd2 cd3 cd4 cd5 cd6 cd7 cd8 cd9 cd10 cd11 cd12 cd13 cd14 cd15 cd16 cd17 cd18 cd19 cd20 cd23 cd24 : Value} {tw th : Tok}
    (n0 : PySem.W.nsIn K mainGlobals "is_int" = some (some (.ref f0))) (l0 : K.lookup f0 = some ⟨oc0, od0, .func (PySem.W.fnOf "is_int" "is_int" (defArgs sInt) (defBody sInt) (defScope sInt) .none kV0 dc0 pm0 an0 cd0 ct0), sl0⟩) (c0 : PySem.W.codeIn K cd0 "is_int" = true) (k0_ : PySem.W.keepIn K (.ref f0) = true)
    (n1 : PySem.W.nsIn K mainGlobals "is_number" = some (some (.ref f1))) (l1 : K.lookup f1 = some ⟨oc1, od1, .func (PySem.W.fnOf "is_number" "is_number" (defArgs sNum) (defBody sNum) (defScope sNum) .none kV1 dc1 pm1 an1 cd1 ct1), sl1⟩) (c1 : PySem.W.codeIn K cd1 "is_number" = true) (k1_ : PySem.W.keepIn K (.ref f1) = true)
    (n2 : PySem.W.nsIn K mainGlobals "is_width" = some (some (.ref f2))) (l2 : K.lookup f2 = some ⟨oc2, od2, .func (PySem.W.fnOf "is_width" "is_width" (defArgs sWid) (defBody sWid) (defScope sWid) .none kV2 dc2 pm2 an2 cd2 ct2), sl2⟩) (c2 : PySem.W.codeIn K cd2 "is_width" = true) (k2_ : PySem.W.keepIn K (.ref f2) = true)
    (n3 : PySem.W.nsIn K mainGlobals "is_hash" = some (some (.ref f3))) (l3 : K.lookup f3 = some ⟨oc3, od3, .func (PySem.W.fnOf "is_hash" "is_hash" (defArgs sHsh) (defBody sHsh) (defScope sHsh) .none kV3 dc3 pm3 an3 cd3 ct3), sl3⟩) (c3 : PySem.W.codeIn K cd3 "is_hash" = true) (k3_ : PySem.W.keepIn K (.ref f3) = true)
    (n4 : PySem.W.nsIn K mainGlobals "check_hash" = some (some (.ref f4))) (l4 : K.lookup f4 = some ⟨oc4, od4, .func (PySem.W.fnOf "check_hash" "check_hash" (defArgs sChk) (defBody sChk) (defScope sChk) .none kV4 dc4 pm4 an4 cd4 ct4), sl4⟩) (c4 : PySem.W.codeIn K cd4 "check_hash" = true) (k4_ : PySem.W.keepIn K (.ref f4) = true)
    (n5 : PySem.W.nsIn K mainGlobals "bucket" = some (some (.ref f5))) (l5 : K.lookup f5 = some ⟨oc5, od5, .func (PySem.W.fnOf "bucket" "bucket" (defArgs sBuc) (defBody sBuc) (defScope sBuc) .none kV5 dc5 pm5 an5 cd5 ct5), sl5⟩) (c5 : PySem.W.codeIn K cd5 "bucket" = true) (k5_ : PySem.W.keepIn K (.ref f5) = true)
    (n6 : PySem.W.nsIn K mainGlobals "is_shape" = some (some (.ref f6))) (l6 : K.lookup f6 = some ⟨oc6, od6, .func (PySem.W.fnOf "is_shape" "is_shape" (defArgs sShp) (defBody sShp) (defScope sShp) .none kV6 dc6 pm6 an6 cd6 ct6), sl6⟩) (c6 : PySem.W.codeIn K cd6 "is_shape" = true) (k6_ : PySem.W.keepIn K (.ref f6) = true)
    (n7 : PySem.W.nsIn K mainGlobals "check_shape" = some (some (.ref f7))) (l7 : K.lookup f7 = some ⟨oc7, od7, .func (PySem.W.fnOf "check_shape" "check_shape" (defArgs sChs) (defBody sChs) (defScope sChs) .none kV7 dc7 pm7 an7 cd7 ct7), sl7⟩) (c7 : PySem.W.codeIn K cd7 "check_shape" = true) (k7_ : PySem.W.keepIn K (.ref f7) = true)
    (n8 : PySem.W.nsIn K mainGlobals "places" = some (some (.ref f8))) (l8 : K.lookup f8 = some ⟨oc8, od8, .func (PySem.W.fnOf "places" "places" (defArgs sPlc) (defBody sPlc) (defScope sPlc) .none kV8 dc8 pm8 an8 cd8 ct8), sl8⟩) (c8 : PySem.W.codeIn K cd8 "places" = true) (k8_ : PySem.W.keepIn K (.ref f8) = true)
    (n9 : PySem.W.nsIn K mainGlobals "is_place" = some (some (.ref f9))) (l9 : K.lookup f9 = some ⟨oc9, od9, .func (PySem.W.fnOf "is_place" "is_place" (defArgs sIsp) (defBody sIsp) (defScope sIsp) .none kV9 dc9 pm9 an9 cd9 ct9), sl9⟩) (c9 : PySem.W.codeIn K cd9 "is_place" = true) (k9_ : PySem.W.keepIn K (.ref f9) = true)
    (n10 : PySem.W.nsIn K mainGlobals "is_move" = some (some (.ref f10))) (l10 : K.lookup f10 = some ⟨oc10, od10, .func (PySem.W.fnOf "is_move" "is_move" (defArgs sIsm) (defBody sIsm) (defScope sIsm) .none kV10 dc10 pm10 an10 cd10 ct10), sl10⟩) (c10 : PySem.W.codeIn K cd10 "is_move" = true) (k10_ : PySem.W.keepIn K (.ref f10) = true)
    (n11 : PySem.W.nsIn K mainGlobals "place_of" = some (some (.ref f11))) (l11 : K.lookup f11 = some ⟨oc11, od11, .func (PySem.W.fnOf "place_of" "place_of" (defArgs sPof) (defBody sPof) (defScope sPof) .none kV11 dc11 pm11 an11 cd11 ct11), sl11⟩) (c11 : PySem.W.codeIn K cd11 "place_of" = true) (k11_ : PySem.W.keepIn K (.ref f11) = true)
    (n12 : PySem.W.nsIn K mainGlobals "_law_pen" = some (some (.ref f12))) (l12 : K.lookup f12 = some ⟨oc12, od12, .func (PySem.W.fnOf "_law_pen" "_law_pen" (defArgs sPen) (defBody sPen) (defScope sPen) .none kV12 dc12 pm12 an12 cd12 ct12), sl12⟩) (c12 : PySem.W.codeIn K cd12 "_law_pen" = true) (k12_ : PySem.W.keepIn K (.ref f12) = true)
    (n13 : PySem.W.nsIn K mainGlobals "_law_next" = some (some (.ref f13))) (l13 : K.lookup f13 = some ⟨oc13, od13, .func (PySem.W.fnOf "_law_next" "_law_next" (defArgs sNext) (defBody sNext) (defScope sNext) .none kV13 dc13 pm13 an13 cd13 ct13), sl13⟩) (c13 : PySem.W.codeIn K cd13 "_law_next" = true) (k13_ : PySem.W.keepIn K (.ref f13) = true)
    (n14 : PySem.W.nsIn K mainGlobals "_law_draw" = some (some (.ref f14))) (l14 : K.lookup f14 = some ⟨oc14, od14, .func (PySem.W.fnOf "_law_draw" "_law_draw" (defArgs sDraw) (defBody sDraw) (defScope sDraw) .none kV14 dc14 pm14 an14 cd14 ct14), sl14⟩) (c14 : PySem.W.codeIn K cd14 "_law_draw" = true) (k14_ : PySem.W.keepIn K (.ref f14) = true)
    (n15 : PySem.W.nsIn K mainGlobals "_law_power" = some (some (.ref f15))) (l15 : K.lookup f15 = some ⟨oc15, od15, .func (PySem.W.fnOf "_law_power" "_law_power" (defArgs sPow) (defBody sPow) (defScope sPow) .none kV15 dc15 pm15 an15 cd15 ct15), sl15⟩) (c15 : PySem.W.codeIn K cd15 "_law_power" = true) (k15_ : PySem.W.keepIn K (.ref f15) = true)
    (n16 : PySem.W.nsIn K mainGlobals "_law_is_below" = some (some (.ref f16))) (l16 : K.lookup f16 = some ⟨oc16, od16, .func (PySem.W.fnOf "_law_is_below" "_law_is_below" (defArgs sBel) (defBody sBel) (defScope sBel) .none kV16 dc16 pm16 an16 cd16 ct16), sl16⟩) (c16 : PySem.W.codeIn K cd16 "_law_is_below" = true) (k16_ : PySem.W.keepIn K (.ref f16) = true)
    (n17 : PySem.W.nsIn K mainGlobals "_law_is_figure" = some (some (.ref f17))) (l17 : K.lookup f17 = some ⟨oc17, od17, .func (PySem.W.fnOf "_law_is_figure" "_law_is_figure" (defArgs sFig) (defBody sFig) (defScope sFig) .none kV17 dc17 pm17 an17 cd17 ct17), sl17⟩) (c17 : PySem.W.codeIn K cd17 "_law_is_figure" = true) (k17_ : PySem.W.keepIn K (.ref f17) = true)
    (n18 : PySem.W.nsIn K mainGlobals "_law_word" = some (some (.ref f18))) (l18 : K.lookup f18 = some ⟨oc18, od18, .func (PySem.W.fnOf "_law_word" "_law_word" (defArgs sWrd) (defBody sWrd) (defScope sWrd) .none kV18 dc18 pm18 an18 cd18 ct18), sl18⟩) (c18 : PySem.W.codeIn K cd18 "_law_word" = true) (k18_ : PySem.W.keepIn K (.ref f18) = true)
    (n19 : PySem.W.nsIn K mainGlobals "_law_figures" = some (some (.ref f19))) (l19 : K.lookup f19 = some ⟨oc19, od19, .func (PySem.W.fnOf "_law_figures" "_law_figures" (defArgs sFgs) (defBody sFgs) (defScope sFgs) .none kV19 dc19 pm19 an19 cd19 ct19), sl19⟩) (c19 : PySem.W.codeIn K cd19 "_law_figures" = true) (k19_ : PySem.W.keepIn K (.ref f19) = true)
    (n20 : PySem.W.nsIn K mainGlobals "_law_spots" = some (some (.ref f20))) (l20 : K.lookup f20 = some ⟨oc20, od20, .func (PySem.W.fnOf "_law_spots" "_law_spots" (defArgs sSpo) (defBody sSpo) (defScope sSpo) .none kV20 dc20 pm20 an20 cd20 ct20), sl20⟩) (c20 : PySem.W.codeIn K cd20 "_law_spots" = true) (k20_ : PySem.W.keepIn K (.ref f20) = true)
    (n21 : PySem.W.nsIn K mainGlobals "_law_shape_right" = some (some (.ref f21))) (l21 : K.lookup f21 = some ⟨oc21, od21, .func (PySem.W.fnOf "_law_shape_right" "_law_shape_right" (defArgs sSr) (defBody sSr) (defScope sSr) .none kV21 dc21 pm21 an21 (.ref cx21) ct21), sl21⟩) (c21 : PySem.W.codeIn K (.ref cx21) "_law_shape_right" = true) (k21_ : PySem.W.keepIn K (.ref f21) = true)
    (n22 : PySem.W.nsIn K mainGlobals "_law_bits_right" = some (some (.ref f22))) (l22 : K.lookup f22 = some ⟨oc22, od22, .func (PySem.W.fnOf "_law_bits_right" "_law_bits_right" (defArgs sBr) (defBody sBr) (defScope sBr) .none kV22 dc22 pm22 an22 (.ref cx22) ct22), sl22⟩) (c22 : PySem.W.codeIn K (.ref cx22) "_law_bits_right" = true) (k22_ : PySem.W.keepIn K (.ref f22) = true)
    (n23 : PySem.W.nsIn K mainGlobals "_law_number_right" = some (some (.ref f23))) (l23 : K.lookup f23 = some ⟨oc23, od23, .func (PySem.W.fnOf "_law_number_right" "_law_number_right" (defArgs sNr) (defBody sNr) (defScope sNr) .none kV23 dc23 pm23 an23 cd23 ct23), sl23⟩) (c23 : PySem.W.codeIn K cd23 "_law_number_right" = true) (k23_ : PySem.W.keepIn K (.ref f23) = true)
    (n24 : PySem.W.nsIn K mainGlobals "law" = some (some (.ref f24))) (l24 : K.lookup f24 = some ⟨oc24, od24, .func (PySem.W.fnOf "law" "law" (defArgs sLw) (defBody sLw) (defScope sLw) .none kV24 dc24 pm24 an24 cd24 ct24), sl24⟩) (c24 : PySem.W.codeIn K cd24 "law" = true) (k24_ : PySem.W.keepIn K (.ref f24) = true)
    (ga0 : PySem.W.nsIn K mainGlobals "InvalidWidth" = some (some (.ref a0)))
    (ga1 : PySem.W.nsIn K mainGlobals "InvalidHash" = some (some (.ref a1)))
    (ga2 : PySem.W.nsIn K mainGlobals "InvalidShape" = some (some (.ref a2)))
    (ga3 : PySem.W.nsIn K mainGlobals "InvalidMove" = some (some (.ref a3)))
    (ga4 : PySem.W.nsIn K mainGlobals "CursorError" = some (some (.ref a4)))
    (z_type : PySem.W.nsIn K mainGlobals "type" = some none)
    (z_isinstance : PySem.W.nsIn K mainGlobals "isinstance" = some none)
    (z_int : PySem.W.nsIn K mainGlobals "int" = some none)
    (z_bool : PySem.W.nsIn K mainGlobals "bool" = some none)
    (z_tuple : PySem.W.nsIn K mainGlobals "tuple" = some none)
    (z_len : PySem.W.nsIn K mainGlobals "len" = some none)
    (z_all : PySem.W.nsIn K mainGlobals "all" = some none)
    (z_repr : PySem.W.nsIn K mainGlobals "repr" = some none)
    (z_enumerate : PySem.W.nsIn K mainGlobals "enumerate" = some none)
    (z_range : PySem.W.nsIn K mainGlobals "range" = some none)
    (z_list : PySem.W.nsIn K mainGlobals "list" = some none)
    (z_ValueError : PySem.W.nsIn K mainGlobals "ValueError" = some none)
    (mW : PySem.W.nsIn K mainGlobals "MOST_WIDTH" = some (some (.int 5 tw))) (mH : PySem.W.nsIn K mainGlobals "MOST_HASH" = some (some (.int 31 th)))
    (e_ : chkEs K [a0, a1, a2, a3] a4 = true) (h21 : PySem.W.codeHdIn K cx21 t21 = true) (h22 : PySem.W.codeHdIn K cx22 t22 = true) (u21 : K.lookup t21 = none) (u22 : K.lookup t22 = none) (ne : (t21 == t22) = false)
    : ∃ (K : PySem.W.Frag) (fd : FuncData) (cs : List (Addr × Addr)) (sp : Sp), K.In h ∧ (∀ p ∈ cs, h.get? p.2 = some { cls := .none, data := .fields #[] }) ∧ (∀ p ∈ cs, K.lookup p.2 = none) ∧ (∀ p ∈ cs, PySem.W.CodeHd h p.1 p.2) ∧
      (∀ (s : Shared) (u : Value), BindsTo s fd ⟨[u], []⟩ [("script", u)]) ∧
      (∀ (H : Hp) (a : Addr) (ns : List Int), ns.length ≤ 63 → (∀ p ∈ cs, H p.2 = some (.tbl #[])) → SqL K H a (ns.map V.int) → sp [.ref a] H (fun v _ => v = .bl true) fun _ _ _ => False) ∧
      ∀ base : Heap, K.In base → base.Ns mainGlobals mg → (∀ p ∈ cs, LamX.TabB base mg p.1 p.2) → GFn PySem.Challenge.rw_seencursors_k01_bits_and_shapes.prog w K mg base CX0 11 fa fd ["script"] sp := by
  have e := hfa.symm.trans (PySem.W.mg_of X G n24)
  cases e
  have B1 : Bi1 mg := ⟨PySem.W.mg_none_of X G z_type, PySem.W.mg_none_of X G z_isinstance, PySem.W.mg_none_of X G z_int, PySem.W.mg_none_of X G z_bool, PySem.W.mg_none_of X G z_tuple, PySem.W.mg_none_of X G z_len, PySem.W.mg_none_of X G z_all, PySem.W.mg_none_of X G z_repr, PySem.W.mg_none_of X G z_enumerate, PySem.W.mg_none_of X G z_range⟩
  have B2 : Blt mg := ⟨PySem.W.mg_none_of X G z_list, PySem.W.mg_none_of X G z_int, PySem.W.mg_none_of X G z_len⟩
  have g0 := PySem.W.mg_of X G ga0
  have g1 := PySem.W.mg_of X G ga1
  have g2 := PySem.W.mg_of X G ga2
  have g3 := PySem.W.mg_of X G ga3
  have g4 := PySem.W.mg_of X G ga4
  have E0 := chkEs_k e_ (i := 0) (by show 0 < 4; decide)
  have E1 := chkEs_k e_ (i := 1) (by show 1 < 4; decide)
  have E2 := chkEs_k e_ (i := 2) (by show 2 < 4; decide)
  have E3 := chkEs_k e_ (i := 3) (by show 3 < 4; decide)
  have x0 : ErC K mg "InvalidWidth" a0 := erC_of g0 E0.1
  have x1 : ErC K mg "InvalidHash" a1 := erC_of g1 E1.1
  have x2 : ErC K mg "InvalidShape" a2 := erC_of g2 E2.1
  have x3 : ErC K mg "InvalidMove" a3 := erC_of g3 E3.1
  have TW : TWd K mg (fun i => ([a0, a1, a2, a3] : List Addr).getD i 0) a4 := ⟨fun i hi => by
      rcases (show i = 0 ∨ i = 1 ∨ i = 2 ∨ i = 3 by omega) with rfl | rfl | rfl | rfl
      · exact g0
      · exact g1
      · exact g2
      · exact g3, g4, fun i hi => (chkE_k (chkEs_k e_ (i := i) hi).1).2.2.2.1, fun i j hi hj => (chkEs_k e_ (i := i) hi).2.2 j hj, fun i hi => (chkE_k (chkEs_k e_ (i := i) hi).1).2.2.2.2.2, fun i hi => (chkE_k (chkEs_k e_ (i := i) hi).1).2.2.2.2.1, fun i hi => (chkEs_k e_ (i := i) hi).2.1,
    PySem.W.mg_none_of X G z_isinstance, PySem.W.mg_none_of X G z_repr, PySem.W.mg_none_of X G z_ValueError⟩
  have m5 : ∃ t, mg "MOST_WIDTH" = some (.int 5 t) := ⟨_, PySem.W.mg_of X G mW⟩
  have m31 : ∃ t, mg "MOST_HASH" = some (.int 31 t) := ⟨_, PySem.W.mg_of X G mH⟩
  have F0 := fun_mk (st := sInt) l0 c0 k0_
  have b0 := F0.binds (ps := ["thing"]) fun _ _ _ _ _ _ us hl => match us, hl with | [_], _ => rfl
  have F1 := fun_mk (st := sNum) l1 c1 k1_
  have b1 := F1.binds (ps := ["thing", "least", "most"]) fun _ _ _ _ _ _ us hl => match us, hl with | [_, _, _], _ => rfl
  have F2 := fun_mk (st := sWid) l2 c2 k2_
  have b2 := F2.binds (ps := ["thing"]) fun _ _ _ _ _ _ us hl => match us, hl with | [_], _ => rfl
  have F3 := fun_mk (st := sHsh) l3 c3 k3_
  have b3 := F3.binds (ps := ["thing"]) fun _ _ _ _ _ _ us hl => match us, hl with | [_], _ => rfl
  have F4 := fun_mk (st := sChk) l4 c4 k4_
  have b4 := F4.binds (ps := ["code"]) fun _ _ _ _ _ _ us hl => match us, hl with | [_], _ => rfl
  have F5 := fun_mk (st := sBuc) l5 c5 k5_
  have b5 := F5.binds (ps := ["code", "width"]) fun _ _ _ _ _ _ us hl => match us, hl with | [_, _], _ => rfl
  have F6 := fun_mk (st := sShp) l6 c6 k6_
  have b6 := F6.binds (ps := ["thing"]) fun _ _ _ _ _ _ us hl => match us, hl with | [_], _ => rfl
  have F7 := fun_mk (st := sChs) l7 c7 k7_
  have b7 := F7.binds (ps := ["shape"]) fun _ _ _ _ _ _ us hl => match us, hl with | [_], _ => rfl
  have F8 := fun_mk (st := sPlc) l8 c8 k8_
  have b8 := F8.binds (ps := ["shape"]) fun _ _ _ _ _ _ us hl => match us, hl with | [_], _ => rfl
  have F9 := fun_mk (st := sIsp) l9 c9 k9_
  have b9 := F9.binds (ps := ["shape", "thing"]) fun _ _ _ _ _ _ us hl => match us, hl with | [_, _], _ => rfl
  have F10 := fun_mk (st := sIsm) l10 c10 k10_
  have b10 := F10.binds (ps := ["shape", "thing"]) fun _ _ _ _ _ _ us hl => match us, hl with | [_, _], _ => rfl
  have F11 := fun_mk (st := sPof) l11 c11 k11_
  have b11 := F11.binds (ps := ["shape", "code", "moved"]) fun _ _ _ _ _ _ us hl => match us, hl with | [_, _, _], _ => rfl
  have F12 := fun_mk (st := sPen) l12 c12 k12_
  have b12 := F12.binds (ps := ["script"]) fun _ _ _ _ _ _ us hl => match us, hl with | [_], _ => rfl
  have F13 := fun_mk (st := sNext) l13 c13 k13_
  have b13 := F13.binds (ps := ["pen"]) fun _ _ _ _ _ _ us hl => match us, hl with | [_], _ => rfl
  have F14 := fun_mk (st := sDraw) l14 c14 k14_
  have b14 := F14.binds (ps := ["pen", "under"]) fun _ _ _ _ _ _ us hl => match us, hl with | [_, _], _ => rfl
  have F15 := fun_mk (st := sPow) l15 c15 k15_
  have b15 := F15.binds (ps := ["width"]) fun _ _ _ _ _ _ us hl => match us, hl with | [_], _ => rfl
  have F16 := fun_mk (st := sBel) l16 c16 k16_
  have b16 := F16.binds (ps := ["thing", "many"]) fun _ _ _ _ _ _ us hl => match us, hl with | [_, _], _ => rfl
  have F17 := fun_mk (st := sFig) l17 c17 k17_
  have b17 := F17.binds (ps := ["thing"]) fun _ _ _ _ _ _ us hl => match us, hl with | [_], _ => rfl
  have F18 := fun_mk (st := sWrd) l18 c18 k18_
  have b18 := F18.binds (ps := ["act"]) fun _ _ _ _ _ _ us hl => match us, hl with | [_], _ => rfl
  have F19 := fun_mk (st := sFgs) l19 c19 k19_
  have b19 := F19.binds (ps := []) fun _ _ _ _ _ _ us hl => match us, hl with | [], _ => rfl
  have F20 := fun_mk (st := sSpo) l20 c20 k20_
  have b20 := F20.binds (ps := ["figure"]) fun _ _ _ _ _ _ us hl => match us, hl with | [_], _ => rfl
  have F21 : FunC K "_law_shape_right" sSr f21 _ cx21 := ⟨⟨_, _, _, _, _, _, _, _, rfl, l21, c21⟩, k21_⟩
  have b21 : Binds K _ ["figure", "code", "gone", "spot"] [] := (fun_mk (st := sSr) l21 c21 k21_).binds (ps := ["figure", "code", "gone", "spot"]) fun _ _ _ _ _ _ us hl => match us, hl with | [_, _, _, _], _ => rfl
  have F22 : FunC K "_law_bits_right" sBr f22 _ cx22 := ⟨⟨_, _, _, _, _, _, _, _, rfl, l22, c22⟩, k22_⟩
  have b22 : Binds K _ ["code", "wide"] [] := (fun_mk (st := sBr) l22 c22 k22_).binds (ps := ["code", "wide"]) fun _ _ _ _ _ _ us hl => match us, hl with | [_, _], _ => rfl
  have F23 := fun_mk (st := sNr) l23 c23 k23_
  have b23 := F23.binds (ps := ["number"]) fun _ _ _ _ _ _ us hl => match us, hl with | [_], _ => rfl
  have F24 := fun_mk (st := sLw) l24 c24 k24_
  have C0 : ∀ base, CalInt PySem.Challenge.rw_seencursors_k01_bits_and_shapes.prog w K mg base := fun base => ⟨f0, _, ok_int F0 B1, PySem.W.mg_of X G n0, k0_, b0⟩
  have C1 : ∀ base, CalNum PySem.Challenge.rw_seencursors_k01_bits_and_shapes.prog w K mg base := fun base => ⟨f1, _, ok_num F1 (C0 base), PySem.W.mg_of X G n1, k1_, b1⟩
  have C2 : ∀ base, CalWid PySem.Challenge.rw_seencursors_k01_bits_and_shapes.prog w K mg base := fun base => ⟨f2, _, ok_wid F2 (C1 base) m5, PySem.W.mg_of X G n2, k2_, b2⟩
  have C3 : ∀ base, CalHsh PySem.Challenge.rw_seencursors_k01_bits_and_shapes.prog w K mg base := fun base => ⟨f3, _, ok_hsh F3 (C1 base) m31, PySem.W.mg_of X G n3, k3_, b3⟩
  have C4 : ∀ base, CalChk PySem.Challenge.rw_seencursors_k01_bits_and_shapes.prog w K mg base a1 := fun base => ⟨f4, _, ok_chk F4 (C3 base) x1, PySem.W.mg_of X G n4, k4_, b4⟩
  have C5 : ∀ base, CalBuc PySem.Challenge.rw_seencursors_k01_bits_and_shapes.prog w K mg base a0 a1 := fun base => ⟨f5, _, ok_buc F5 (C2 base) (C4 base) x0, PySem.W.mg_of X G n5, k5_, b5⟩
  have C6 : ∀ base, CalShp PySem.Challenge.rw_seencursors_k01_bits_and_shapes.prog w K mg base := fun base => ⟨f6, _, ok_shp F6 B1 (C2 base), PySem.W.mg_of X G n6, k6_, b6⟩
  have C7 : ∀ base, CalChs PySem.Challenge.rw_seencursors_k01_bits_and_shapes.prog w K mg base a2 := fun base => ⟨f7, _, ok_chs F7 (C6 base) x2, PySem.W.mg_of X G n7, k7_, b7⟩
  have C8 : ∀ base, CalPlc PySem.Challenge.rw_seencursors_k01_bits_and_shapes.prog w K mg base a2 := fun base => ⟨f8, _, ok_plc F8 B1 (C7 base), PySem.W.mg_of X G n8, k8_, b8⟩
  have C9 : ∀ base, CalIsp PySem.Challenge.rw_seencursors_k01_bits_and_shapes.prog w K mg base a2 := fun base => ⟨f9, _, ok_isp F9 B1 (C7 base) (C1 base), PySem.W.mg_of X G n9, k9_, b9⟩
  have C10 : ∀ base, CalIsm PySem.Challenge.rw_seencursors_k01_bits_and_shapes.prog w K mg base := fun base => ⟨f10, _, ok_ism F10 B1, PySem.W.mg_of X G n10, k10_, b10⟩
  have C11 : ∀ base, CalPof PySem.Challenge.rw_seencursors_k01_bits_and_shapes.prog w K mg base a2 a1 a3 := fun base => ⟨f11, _, ok_pof F11 (C7 base) (C4 base) (C10 base) (C5 base) x3, PySem.W.mg_of X G n11, k11_, b11⟩
  have C12 : ∀ base, CalPen PySem.Challenge.rw_seencursors_k01_bits_and_shapes.prog w K mg base := fun base => ⟨f12, _, ok_pen F12 B2.lst, PySem.W.mg_of X G n12, k12_, b12⟩
  have G13 : ∀ base, FnOk PySem.Challenge.rw_seencursors_k01_bits_and_shapes.prog w K mg base CX0 1 f13 _ ["pen"] spNext := fun base => ok_next F13 B2
  have C14 : ∀ base, CalDrw PySem.Challenge.rw_seencursors_k01_bits_and_shapes.prog w K mg base := fun base => ⟨f14, _, ok_draw F14 B2 (G13 base) (PySem.W.mg_of X G n13) k13_ b13, PySem.W.mg_of X G n14, k14_, b14⟩
  have C15 : ∀ base, CalPow PySem.Challenge.rw_seencursors_k01_bits_and_shapes.prog w K mg base := fun base => ⟨f15, _, ok_pow F15, PySem.W.mg_of X G n15, k15_, b15⟩
  have C16 : ∀ base, CalBel PySem.Challenge.rw_seencursors_k01_bits_and_shapes.prog w K mg base := fun base => ⟨f16, _, ok_bel F16 B1, PySem.W.mg_of X G n16, k16_, b16⟩
  have C17 : ∀ base, CalFig PySem.Challenge.rw_seencursors_k01_bits_and_shapes.prog w K mg base := fun base => ⟨f17, _, ok_fig F17 B1 (C16 base), PySem.W.mg_of X G n17, k17_, b17⟩
  have C19 : ∀ base, CalFgs PySem.Challenge.rw_seencursors_k01_bits_and_shapes.prog w K mg base := fun base => ⟨f19, _, ok_fgs F19 B1, PySem.W.mg_of X G n19, k19_, b19⟩
  have C20 : ∀ base, CalSpo PySem.Challenge.rw_seencursors_k01_bits_and_shapes.prog w K mg base := fun base => ⟨f20, _, ok_spo F20 B1 (C15 base), PySem.W.mg_of X G n20, k20_, b20⟩
  have WD : WdAt K mg := ⟨⟨_, _, _, _, _, _, _, _, _, _, PySem.W.mg_of X G n18, k18_, l18, c18, b18⟩⟩
  have q1 : ("_law_shape_right" : Str) ++ ".<locals>." ++ "<lambda>" = ("_law_shape_right" : Str) ++ ".<locals>." ++ "<lambda>" := rfl
  obtain ⟨TT, eTT⟩ : ∃ TT : List (Addr × Str), TT = [(t21, ("_law_shape_right" : Str) ++ ".<locals>." ++ "<lambda>"), (t22, ("_law_bits_right" : Str) ++ ".<locals>." ++ "<lambda>")] := ⟨_, rfl⟩
  have nt : t21 ≠ t22 := beq_eq_false_iff_ne.mp ne
  refine ⟨K, PySem.W.fnOf "law" "law" (defArgs sLw) (defBody sLw) (defScope sLw) .none kV24 dc24 pm24 an24 cd24 ct24, [(cx21, t21), (cx22, t22)], spLw K TT, X, fun p hp => ?_, fun p hp => ?_, fun p hp => ?_, fun s v => .of_eq rfl, fun H a ns hl hH hS => ⟨a, ns, rfl, hS, fun q hq => ?_, fun _ => rfl⟩, fun base hK hB hT => ?_⟩
  · simp only [List.mem_cons, List.not_mem_nil, or_false] at hp
    rcases hp with rfl | rfl
    · exact tb t21 (by simp)
    · exact tb t22 (by simp)
  · simp only [List.mem_cons, List.not_mem_nil, or_false] at hp
    rcases hp with rfl | rfl
    · exact u21
    · exact u22
  · simp only [List.mem_cons, List.not_mem_nil, or_false] at hp
    rcases hp with rfl | rfl
    · exact PySem.W.codeHd_of_K X h21
    · exact PySem.W.codeHd_of_K X h22
  · rw [eTT] at hq
    simp only [List.mem_cons, List.not_mem_nil, or_false] at hq
    rcases hq with rfl | rfl
    · exact LamX.TabS.nil (hH (cx21, t21) (by simp))
    · exact LamX.TabS.nil (hH (cx22, t22) (by simp))
  · have T21 := hT (cx21, t21) (by simp)
    have T22 := hT (cx22, t22) (by simp)
    have GS := ok_sr (TT := TT) F21 B1 TW WD T21 (by rw [eTT]; simp) (by
      rw [eTT]
      intro p hp e
      simp only [List.mem_cons, List.not_mem_nil, or_false] at hp
      rcases hp with rfl | rfl
      · rfl
      · exact absurd e.symm nt) (C17 base) (C6 base) (C20 base) (C16 base) (C15 base) (C8 base) (C9 base) (C11 base)
    have GB := ok_br (TT := TT) F22 B1 TW WD T22 (by rw [eTT]; simp) (by
      rw [eTT]
      intro p hp e
      simp only [List.mem_cons, List.not_mem_nil, or_false] at hp
      rcases hp with rfl | rfl
      · exact absurd e nt
      · rfl) (C2 base) (C3 base) (C16 base) (C15 base) (C5 base)
    have CSr : CalSr PySem.Challenge.rw_seencursors_k01_bits_and_shapes.prog w K mg base TT := ⟨f21, _, GS, PySem.W.mg_of X G n21, k21_, b21⟩
    have CBr : CalBr PySem.Challenge.rw_seencursors_k01_bits_and_shapes.prog w K mg base TT := ⟨f22, _, GB, PySem.W.mg_of X G n22, k22_, b22⟩
    have CNr : CalNr PySem.Challenge.rw_seencursors_k01_bits_and_shapes.prog w K mg base TT := ⟨f23, _, ok_nr F23 CBr CSr, PySem.W.mg_of X G n23, k23_, b23⟩
    exact ok_lw F24 B1 B2 (C12 base) (C14 base) (C19 base) (C8 base) (C20 base) (C6 base) CNr CSr CBr
end Own
open PySem PySem.W PyProof.Rows
set_option maxRecDepth 100000 in
set_option maxHeartbeats 0 in
theorem PySem.Challenge.cw_seencursors_k01_bits_and_shapes_holds : PySem.Challenge.rw_seencursors_k01_bits_and_shapes.Holds := by
  w_on; o_law; k_head; (case hw => w_witness2)
  k_fill
  refine Own.walk_gT (n := 63) (k := 11) (x := "script") rfl (by decide) rfl ⟨rfl, by decide, by decide⟩ ?F
  case F =>
    intro w mg fa h Y G hmg
    refine' Own.all_mk (km_in_of Y) (km_tabs_of Y) G hmg ?n0 ?l0 ?c0 ?k0_ ?n1 ?l1 ?c1 ?k1_ ?n2 ?l2 ?c2 ?k2_ ?n3 ?l3 ?c3 ?k3_ ?n4 ?l4 ?c4 ?k4_ ?n5 ?l5 ?c5 ?k5_ ?n6 ?l6 ?c6 ?k6_ ?n7 ?l7 ?c7 ?k7_ ?n8 ?l8 ?c8 ?k8_ ?n9 ?l9 ?c9 ?k9_ ?n10 ?l10 ?c10 ?k10_ ?n11 ?l11 ?c11 ?k11_ ?n12 ?l12 ?c12 ?k12_ ?n13 ?l13 ?c13 ?k13_ ?n14 ?l14 ?c14 ?k14_ ?n15 ?l15 ?c15 ?k15_ ?n16 ?l16 ?c16 ?k16_ ?n17 ?l17 ?c17 ?k17_ ?n18 ?l18 ?c18 ?k18_ ?n19 ?l19 ?c19 ?k19_ ?n20 ?l20 ?c20 ?k20_ ?n21 ?l21 ?c21 ?k21_ ?n22 ?l22 ?c22 ?k22_ ?n23 ?l23 ?c23 ?k23_ ?n24 ?l24 ?c24 ?k24_ ?ga0 ?ga1 ?ga2 ?ga3 ?ga4 ?z_type ?z_isinstance ?z_int ?z_bool ?z_tuple ?z_len ?z_all ?z_repr ?z_enumerate ?z_range ?z_list ?z_ValueError ?mW ?mH ?e_ ?h21 ?h22 ?u21 ?u22 ?ne
    (case n0 => k_is)
    (case l0 => k_is)
    (case c0 => k_is)
    (case k0_ => k_is)
    (case n1 => k_is)
    (case l1 => k_is)
    (case c1 => k_is)
    (case k1_ => k_is)
    (case n2 => k_is)
    (case l2 => k_is)
    (case c2 => k_is)
    (case k2_ => k_is)
    (case n3 => k_is)
    (case l3 => k_is)
    (case c3 => k_is)
    (case k3_ => k_is)
    (case n4 => k_is)
    (case l4 => k_is)
    (case c4 => k_is)
    (case k4_ => k_is)
    (case n5 => k_is)
    (case l5 => k_is)
    (case c5 => k_is)
    (case k5_ => k_is)
    (case n6 => k_is)
    (case l6 => k_is)
    (case c6 => k_is)
    (case k6_ => k_is)
    (case n7 => k_is)
    (case l7 => k_is)
    (case c7 => k_is)
    (case k7_ => k_is)
    (case n8 => k_is)
    (case l8 => k_is)
    (case c8 => k_is)
    (case k8_ => k_is)
    (case n9 => k_is)
    (case l9 => k_is)
    (case c9 => k_is)
    (case k9_ => k_is)
    (case n10 => k_is)
    (case l10 => k_is)
    (case c10 => k_is)
    (case k10_ => k_is)
    (case n11 => k_is)
    (case l11 => k_is)
    (case c11 => k_is)
    (case k11_ => k_is)
    (case n12 => k_is)
    (case l12 => k_is)
    (case c12 => k_is)
    (case k12_ => k_is)
    (case n13 => k_is)
    (case l13 => k_is)
    (case c13 => k_is)
    (case k13_ => k_is)
    (case n14 => k_is)
    (case l14 => k_is)
    (case c14 => k_is)
    (case k14_ => k_is)
    (case n15 => k_is)
    (case l15 => k_is)
    (case c15 => k_is)
    (case k15_ => k_is)
    (case n16 => k_is)
    (case l16 => k_is)
    (case c16 => k_is)
    (case k16_ => k_is)
    (case n17 => k_is)
    (case l17 => k_is)
    (case c17 => k_is)
    (case k17_ => k_is)
    (case n18 => k_is)
    (case l18 => k_is)
    (case c18 => k_is)
    (case k18_ => k_is)
    (case n19 => k_is)
    (case l19 => k_is)
    (case c19 => k_is)
    (case k19_ => k_is)
    (case n20 => k_is)
    (case l20 => k_is)
    (case c20 => k_is)
    (case k20_ => k_is)
    (case n21 => k_is)
    (case l21 => k_is)
    (case c21 => k_is)
    (case k21_ => k_is)
    (case n22 => k_is)
    (case l22 => k_is)
    (case c22 => k_is)
    (case k22_ => k_is)
    (case n23 => k_is)
    (case l23 => k_is)
    (case c23 => k_is)
    (case k23_ => k_is)
    (case n24 => k_is)
    (case l24 => k_is)
    (case c24 => k_is)
    (case k24_ => k_is)
    (case ga0 => k_is)
    (case ga1 => k_is)
    (case ga2 => k_is)
    (case ga3 => k_is)
    (case ga4 => k_is)
    (case z_type => k_is)
    (case z_isinstance => k_is)
    (case z_int => k_is)
    (case z_bool => k_is)
    (case z_tuple => k_is)
    (case z_len => k_is)
    (case z_all => k_is)
    (case z_repr => k_is)
    (case z_enumerate => k_is)
    (case z_range => k_is)
    (case z_list => k_is)
    (case z_ValueError => k_is)
    (case mW => k_is)
    (case mH => k_is)
    (case e_ => kernel_rfl)
    (case h21 => kernel_rfl)
    (case h22 => kernel_rfl)
    (case u21 => kernel_rfl)
    (case u22 => kernel_rfl)
    (case ne => rfl)
