import PyProof.Rows.All
import Wide.All
import OpenK.AllK
import Wide.FinOn
import HandS.ForMost
import HandS.Wide
import HandS.SortKw
import HandS.List
import HandS.More
import HandS.Conv
import HandS.Lambda
import PyProof.TypeEq
import HandS.SetKeys
import PyProof.InstEq
import HandS.SetBool
import HandS.Strs
import HandS.IsInst
import HandS.Walk
import HandS.Style
import HandS.Set
import HandS.TupAny
import PyProof.NeKinds
import HandS.SortInts
import KE.GoesEnumKw
import HandS.NamedTupSort
import HandS.Sort
import KE.KeyNested
import KE.KDictWalk
import HandS.DictComp
import HandS.Defaults
import HandS.MakeKwOnly
import PyProof.ReprRoads
import HandS.FStrTup
import HandS.Words
import HandS.EndTab
import HandS.Head0
import HandS.Head1
import HandS.Head2
import HandS.HeadEnd
import HandS.HeadHook1
import HandS.HeadHook2
import HandS.HeadHook3
import HandS.HeadHook4
import PySem.Challenge.RW_turnless_k33_whole_what_clauses_say
set_option Elab.async false
set_option linter.all false
set_option maxRecDepth 100000
set_option maxHeartbeats 0
-- part: A0
namespace Toy
open PySem L2
/-! ### readings, evaluated -/
section
variable {D : Ends} {σ : St} {H : Hp} {Q : VK}
theorem e_seq {t u : TS} : tSeq t u D σ H = t { D with nx := u D } σ H := rfl
theorem e_asg {te : TE} {i : Nat} : tAsg te (gName i) D σ H = te σ H fun x H1 => D.nx (σ.set i (some x)) H1 := rfl
theorem e_asgS {te to ti : TE} {t : TSet} : tAsg te (gSub to ti t) D σ H = te σ H fun v H1 => to σ H1 fun o H2 => ti σ H2 fun i H3 => t o i v H3 fun H4 => D.nx σ H4 := rfl
theorem e_ret {te : TE} : tRet te D σ H = te σ H D.rt := rfl
theorem e_ifS {c : TT} {t u : TS} : tIfS c t u D σ H = c σ H fun b H1 => if b = true then t D σ H1 else u D σ H1 := rfl
theorem e_c {v : V} : tC v σ H Q = Q v H := rfl
theorem e_op {r : R2} {ta tb : TE} : tOp r ta tb σ H Q = ta σ H fun x H1 => tb σ H1 fun y H2 => r x y H2 Q := rfl
theorem e_test {te : TE} {q : Bool → Hp → Prop} : tTest te σ H q = te σ H fun x H1 => ∃ c, x = .bl c ∧ q c H1 := rfl
theorem e_rI0 {g : Int → Int → V} {i j : Int} : rI0 g (.int i) (.int j) H Q = Q (g i j) H := by
  refine propext ⟨?_, fun h => ⟨_, _, rfl, rfl, h⟩⟩
  rintro ⟨a, b, e1, e2, h⟩; cases e1; cases e2; exact h
theorem e_rI {C : Int → Int → Prop} {g : Int → Int → V} {i j : Int} : rI C g (.int i) (.int j) H Q = (C i j ∧ Q (g i j) H) := by
  refine propext ⟨?_, fun h => ⟨_, _, rfl, rfl, h⟩⟩
  rintro ⟨a, b, e1, e2, h⟩; cases e1; cases e2; exact h
theorem e_var0 {v : V} {s : List (Option V)} : tVar 0 (some v :: s) H Q = Q v H := by
  refine propext ⟨?_, fun h => ⟨_, rfl, h⟩⟩
  rintro ⟨a, e, h⟩; cases e; exact h
theorem e_varS {o : Option V} {n : Nat} {s : List (Option V)} : tVar (n + 1) (o :: s) H Q = tVar n s H Q := rfl
theorem e_bl {b : Bool} {q : Bool → Prop} : (∃ c, V.bl b = V.bl c ∧ q c) = q b := by
  refine propext ⟨?_, fun h => ⟨_, rfl, h⟩⟩
  rintro ⟨a, e, h⟩; cases e; exact h
theorem e_nil {q : List V → Hp → Prop} : tNil σ H q = q [] H := rfl
theorem e_cons {ta : TE} {t : TA} {q : List V → Hp → Prop} : tCons ta t σ H q = ta σ H fun x H1 => t σ H1 fun xs H2 => q (x :: xs) H2 := rfl
theorem e_call {sp : Sp} {dvs : List V} {E : XK} {t : TA} : tCall sp dvs E t σ H Q = t σ H fun vs H1 => sp (vs ++ dvs) H1 Q E := rfl
theorem e_cb {r : List V → Hp → VK → Prop} {t : TA} : tCB r t σ H Q = t σ H fun vs H1 => r vs H1 Q := rfl
theorem e_next : tNext D σ H = D.nx σ H := rfl
theorem e_bl2 {b : Bool} {q : Bool → Hp → Prop} : (∃ c, V.bl b = V.bl c ∧ q c H) = q b H := by
  refine propext ⟨?_, fun h => ⟨_, rfl, h⟩⟩
  rintro ⟨a, e, h⟩; cases e; exact h
end
section
variable {D : Ends} {σ : St} {H : Hp} {Q : VK}
theorem e_and {a b : TE} : tAndV a b σ H Q = a σ H fun x H1 => ∃ c, x = .bl c ∧ if c = true then b σ H1 Q else Q (.bl false) H1 := rfl
theorem e_chain {r r' : R2} {a b c : TE} : tChain r r' a b c σ H Q = a σ H fun x H1 => b σ H1 fun y H2 => r x y H2 fun z H3 => ∃ k, z = .bl k ∧ (if k = true then c σ H3 fun w' H4 => r' y w' H4 Q else Q (.bl false) H3) := rfl
theorem e_tif {t : TT} {a b : TE} : tIf t a b σ H Q = t σ H fun c H1 => if c = true then a σ H1 Q else b σ H1 Q := rfl
theorem e_not {t : TT} {q : Bool → Hp → Prop} : tNot t σ H q = t σ H fun c H1 => q (!c) H1 := rfl
theorem e_tb {t : TE} {q : Bool → Hp → Prop} : tB t σ H q = t σ H fun x H1 => ∃ c, x = .bl c ∧ q c H1 := rfl
theorem e_drop {te : TE} : tDrop te D σ H = te σ H fun _ H1 => D.nx σ H1 := rfl
theorem e_or {t u : TT} {q : Bool → Hp → Prop} : tOr t u σ H q = t σ H fun c H1 => if c = true then q true H1 else u σ H1 q := rfl
theorem e_andT {t u : TT} {q : Bool → Hp → Prop} : tAnd t u σ H q = t σ H fun c H1 => if c = true then u σ H1 q else q false H1 := rfl
theorem e_din {ty td : TE} : tDIn ty td σ H Q = ty σ H fun y H1 => td σ H1 fun x H2 => ∃ a o, x = .ref a ∧ DGet H2 a y o ∧ Q (.bl o.isSome) H2 := rfl
theorem e_dnotin {ty td : TE} : tDNotIn ty td σ H Q = ty σ H fun y H1 => td σ H1 fun x H2 => ∃ a o, x = .ref a ∧ DGet H2 a y o ∧ Q (.bl (!o.isSome)) H2 := rfl
theorem e_un {r : V → Hp → VK → Prop} {ta : TE} : tUn r ta σ H Q = ta σ H fun x H1 => r x H1 Q := rfl
theorem e_rU {g : Int → V} {i : Int} : rU g (.int i) H Q = Q (g i) H := by
  refine propext ⟨?_, fun h => ⟨_, rfl, h⟩⟩
  rintro ⟨a, e, h⟩; cases e; exact h
theorem e_dput {td ty tv : TE} : sDPut td ty tv D σ H = tv σ H fun v H1 => td σ H1 fun x H2 => ty σ H2 fun y H3 => ∃ a H4, x = .ref a ∧ DPut H3 a y v H4 ∧ D.nx σ H4 := rfl
theorem e_x1 {v : V} {q : V → Prop} : (∃ x, [v] = [x] ∧ q x) = q v := by
  refine propext ⟨?_, fun h => ⟨_, rfl, h⟩⟩
  rintro ⟨i, e, h⟩; cases e; exact h
theorem e_notV {a : TE} : tNotV a σ H Q = a σ H fun x H1 => ∃ c, x = .bl c ∧ Q (.bl (!c)) H1 := rfl
theorem e_orV {a b : TE} : tOrV a b σ H Q = a σ H fun x H1 => ∃ c, x = .bl c ∧ if c = true then Q (.bl true) H1 else b σ H1 Q := rfl
theorem e_fld {K : PySem.W.Frag} {ta tv : TE} {f : Str} : sFld K ta tv f D σ H = tv σ H fun y H1 => ta σ H1 fun x H2 => ∃ a C dx fs, x = .ref a ∧ H2 a = some (.ins C dx fs) ∧ Cls K C ∧ NoAttr K C f ∧ fs.length < 1000 ∧ D.nx σ (upd H2 a (.ins C dx (putF f y fs))) := rfl
theorem e_par {i j : Nat} {ta : TA} : tPar i j ta D σ H = ta σ H fun vs H1 => ∃ v w, vs = [v, w] ∧ D.nx ((σ.set i (some v)).set j (some w)) H1 := rfl
theorem e_vw {a b : V} {q : V → V → Prop} : (∃ v w, [a, b] = [v, w] ∧ q v w) = q a b := by
  refine propext ⟨?_, fun h => ⟨_, _, rfl, h⟩⟩
  rintro ⟨i, j, e, h⟩; cases e; exact h
theorem e_dnewK : tDNewK σ H Q = ∀ p, H p = none → Q (.ref p) (upd H p (.dK [])) := rfl
theorem e_gName {i : Nat} {v : V} {q : St → Hp → Prop} : gName i v σ H q = q (σ.set i (some v)) H := rfl
theorem e_bm {K : PySem.W.Frag} {T : String} {r : V → List V → Hp → VK → Prop} {to : TE} {t : TA} : tBM K T r to t σ H Q = to σ H fun x H1 => tyV K T x H1 ∧ t σ H1 fun xs H2 => r x xs H2 Q := rfl
theorem e_i1 {a : Int} {q : Int → Prop} : (∃ i, [V.int a] = [V.int i] ∧ q i) = q a := by
  refine propext ⟨?_, fun h => ⟨_, rfl, h⟩⟩
  rintro ⟨i, e, h⟩; cases e; exact h
end
theorem p_ix {K : PySem.W.Frag} {H : Hp} {Q : VK} {p : Addr} {xs : List V} {i : Int} {v : V} (h : SqL K H p xs) (e : atI xs i = some v) (q : Q v H) : rIxL K (.ref p) (.int i) H Q := ⟨p, xs, i, v, rfl, rfl, h, e, q⟩
theorem p_set {H : Hp} {Q : Hp → Prop} {p : Addr} {xs : List V} {i : Int} {j : Nat} {v : V} (h : H p = some (.lst xs)) (e : ixN xs.length i = some j) (q : Q (upd H p (.lst (xs.set j v)))) : rSetL (.ref p) (.int i) v H Q := ⟨p, xs, i, j, rfl, rfl, h, e, q⟩
theorem e_cxK {CX : CXT} {P : Program} {w : World} {K : PySem.W.Frag} {mg : Str → Option Value} {base : Heap} {N : List Str} {qual : Str} {sc : Scope} {f : Addr} {cdv : Value} {A : Around} {outer : List Env} {s : Shared} {H : Hp} {E : XK} : (cxOf CX P w K mg base N qual sc f cdv A outer s H E).K = K := rfl
theorem e_ii {a b : Int} {q : Int → Int → Prop} : (∃ i j, [V.int a, V.int b] = [V.int i, V.int j] ∧ q i j) = q a b := by
  refine propext ⟨?_, fun h => ⟨_, _, rfl, h⟩⟩
  rintro ⟨i, j, e, h⟩; cases e; exact h
theorem e_lst {t : TA} {σ : St} {H : Hp} {Q : VK} : tLst t σ H Q = t σ H fun xs H1 => xs.length ≤ sizeLine ∧ ∀ p, H1 p = none → Q (.ref p) (upd H1 p (.lst xs)) := rfl
theorem e_tup {t : TA} {σ : St} {H : Hp} {Q : VK} : tTup t σ H Q = t σ H fun xs H1 => xs.length ≤ sizeLine ∧ ∀ p, H1 p = none → Q (.ref p) (upd H1 p (.tup xs)) := rfl
theorem p_neD {K : PySem.W.Frag} {H : Hp} {Q : VK} {x y : V} {d e : PyData} (hd : Dp K H x d) (he : Dp K H y e) (sd : SeqAt.shaped d = true) (se : SeqAt.shaped e = true) (q : Q (.bl (!PyData.eqv d e)) H) : rNeD K x y H Q := ⟨d, e, hd, he, sd, se, q⟩
theorem p_eqD {K : PySem.W.Frag} {H : Hp} {Q : VK} {x y : V} {d e : PyData} (hd : Dp K H x d) (he : Dp K H y e) (sd : SeqAt.shaped d = true) (se : SeqAt.shaped e = true) (q : Q (.bl (PyData.eqv d e)) H) : rEqD K x y H Q := ⟨d, e, hd, he, sd, se, q⟩
theorem at_ints {ns : List Int} {i : Int} (h0 : 0 ≤ i) (h1 : i < ns.length) : ∃ z, atI (ns.map V.int) i = some (V.int z) := by
  obtain ⟨j, rfl⟩ := Int.eq_ofNat_of_zero_le h0
  have hj : j < ns.length := by omega
  refine ⟨ns[j], atI_nat ?_⟩
  rw [List.getElem?_map, List.getElem?_eq_getElem hj]
  rfl
theorem p_app {H : Hp} {Q : VK} {l : Addr} {xs : List V} {y : V} (h : H l = some (.lst xs)) (z : xs.length < sizeLine) (q : Q .non (upd H l (.lst (xs ++ [y])))) : rAppend (.ref l) [y] H Q := ⟨l, xs, y, rfl, rfl, h, z, q⟩
/-! ### what stands but for one object -/
def Ex (d : Addr) (H H' : Hp) : Prop := ∀ b o, H b = some o → b ≠ d → H' b = some o
theorem Ex.refl (d : Addr) (H : Hp) : Ex d H H := fun _ _ h _ => h
theorem Ex.trans {d : Addr} {H H1 H2 : Hp} (a : Ex d H H1) (b : Ex d H1 H2) : Ex d H H2 := fun c o h n => b c o (a c o h n) n
theorem Ex.new {d p : Addr} {H : Hp} {o : HO} (h : H p = none) : Ex d H (upd H p o) := fun b u e _ => by rw [upd_ne (ne_of_none e h)]; exact e
theorem Ex.at {d : Addr} {H : Hp} {o : HO} : Ex d H (upd H d o) := fun b u e n => by rw [upd_ne n]; exact e
theorem Ex.same {d : Addr} {H H' : Hp} (e : Same H H') : Ex d H H' := fun b o h _ => e b o h
theorem Ex.sql {d : Addr} {K : PySem.W.Frag} {H H' : Hp} {a : Addr} {xs : List V} (e : Ex d H H') (n : a ≠ d) (h : SqL K H a xs) : SqL K H' a xs := by
  rcases h with (h | ⟨o, h⟩) | h
  · exact .inl (.inl (e _ _ h n))
  · exact .inl (.inr ⟨o, e _ _ h n⟩)
  · exact .inr h
theorem Same.new {p : Addr} {H : Hp} {o : HO} (h : H p = none) : Same H (upd H p o) := fun b u e => by rw [upd_ne (ne_of_none e h)]; exact e
/-- the draws: a list of the script and a count -/
structure Dr (K : PySem.W.Frag) (H : Hp) (d sc : Addr) (ns : List Int) (n : Int) : Prop where
  dr : H d = some (.lst [.ref sc, .int n])
  sq : SqL K H sc (ns.map V.int)
  len : ns.length ≤ 63
  pos : 0 ≤ n
def DrOk (K : PySem.W.Frag) (H : Hp) (d : Addr) : Prop := ∃ sc ns n, Dr K H d sc ns n
theorem DrOk.same {K : PySem.W.Frag} {H H' : Hp} {d : Addr} (e : Same H H') : DrOk K H d → DrOk K H' d := fun ⟨sc, ns, n, h⟩ => ⟨sc, ns, n, e _ _ h.dr, Same.seq e h.sq, h.len, h.pos⟩
theorem DrOk.nd {K : PySem.W.Frag} {H : Hp} {d p : Addr} (h : DrOk K H d) (hp : H p = none) : p ≠ d := fun e => by
  obtain ⟨sc, ns, n, D⟩ := h
  rw [e, D.dr] at hp
  cases hp
theorem ne_ints {sc : Addr} {n : V} {ns : List Int} {r : List V} : ns.map V.int ≠ V.ref sc :: r := fun e => by
  cases ns with
  | nil => cases e
  | cons a l => cases e
theorem Dr.sqx {K : PySem.W.Frag} {H H' : Hp} {d sc : Addr} {ns : List Int} {n : Int} (D : Dr K H d sc ns n) (e : Ex d H H') : SqL K H' sc (ns.map V.int) := by
  have h := D.sq
  have hd := D.dr
  rcases h with (h | ⟨o, h⟩) | h
  · exact .inl (.inl (e _ _ h fun z => by
      rw [z, hd] at h
      exact ne_ints (n := .non) (HO.lst.inj (Option.some.inj h)).symm))
  · exact .inl (.inr ⟨o, e _ _ h fun z => by
      rw [z, hd] at h
      cases h⟩)
  · exact .inr h
def DrA (K : PySem.W.Frag) (sc : Addr) (ns : List Int) (H : Hp) (d : Addr) : Prop := ∃ n, Dr K H d sc ns n
theorem DrA.same {K : PySem.W.Frag} {sc : Addr} {ns : List Int} {H H' : Hp} {d : Addr} (e : Same H H') : DrA K sc ns H d → DrA K sc ns H' d := fun ⟨n, h⟩ => ⟨n, e _ _ h.dr, Same.seq e h.sq, h.len, h.pos⟩
theorem DrA.nd {K : PySem.W.Frag} {sc : Addr} {ns : List Int} {H : Hp} {d p : Addr} (h : DrA K sc ns H d) (hp : H p = none) : p ≠ d := DrOk.nd ⟨_, _, h⟩ hp
/-- a write to an object that was made since -/
theorem DrA.up {K : PySem.W.Frag} {sc : Addr} {ns : List Int} {H0 H : Hp} {d p : Addr} {o : HO} (h0 : DrA K sc ns H0 d) (h : DrA K sc ns H d) (e : Ex d H0 H) (hp : H0 p = none) : DrA K sc ns (upd H p o) d := by
  obtain ⟨n0, D0⟩ := h0
  obtain ⟨n, D⟩ := h
  have nd := DrA.nd ⟨n0, D0⟩ hp
  exact ⟨n, by rw [upd_ne (Ne.symm nd)]; exact D.dr, Dr.sqx D0 (fun b o hb n => by rw [upd_ne (ne_of_none hb hp)]; exact e b o hb n), D.len, D.pos⟩
theorem Ex.up {d p : Addr} {H0 H : Hp} {o : HO} (e : Ex d H0 H) (hp : H0 p = none) : Ex d H0 (upd H p o) := fun b o hb n => by rw [upd_ne (ne_of_none hb hp)]; exact e b o hb n
theorem can_ints : ∀ (l : List Int), PyData.canLayAll0 (l.map PyData.int) = true
  | [] => by simp [PyData.canLayAll0]
  | i :: r => by simp [PyData.canLayAll0, PyData.canLay0, can_ints r]
theorem dep_ints : ∀ (l : List Int), PyData.depthAll (l.map PyData.int) ≤ 1
  | [] => by simp [PyData.depthAll]
  | i :: r => by
    have h := dep_ints r
    simp [PyData.depthAll, PyData.depth] <;> omega
theorem shaped_lints (l : List Int) : SeqAt.shaped (.list (l.map PyData.int)) = true := by
  have h := dep_ints l
  unfold SeqAt.shaped
  rw [Bool.and_eq_true]
  refine ⟨by simp [PyData.canLay0, can_ints], decide_eq_true ?_⟩
  simp only [PyData.depth]
  omega
theorem dp_ints {K : PySem.W.Frag} {H : Hp} : ∀ (l : List Int), DpAll K H (l.map V.int) (l.map PyData.int)
  | [] => .nil
  | i :: r => .cons (.int i) (dp_ints r)
end Toy

-- part: SK1
namespace SrtQ
open PySem PyProof.Rows Srt SrtO
section
variable {prog : Program} {w : World} {A : Around} {E : Value → Shared → Prop} {s : Shared} {a kS : Addr} {e1 : Nat} {vs : List Value}
/-- what runs behind the keys: out is made of the pairs (key, item) in order -/
def Good (ltk : Value → Value → Bool) (ks vs out : List Value) : Prop := ∃ ps : List Keyed, Srtd (lt2 ltk) ps ∧ Stb (lt2 ltk) ps (ks.zip vs) ∧ out = ps.map (·.2)
def endH (h : Heap) (a kS : Addr) (out : List Value) : Heap := (h.update kS (Obj.mapSeq fun _ => (#[] : Array Value))).update a (Obj.mapSeq fun _ => out.toArray)
theorem zip_arr (ks vs : List Value) : (ks.toArray.zip vs.toArray).toList = ks.zip vs := by
  rw [ksk_zip]
theorem tail_ {ltk : Value → Value → Bool} {ks : List Value} {e : Nat} {st : SortSt} {R : PySem.Fin → Shared → Prop} (hka : kS ≠ a) (hk : s.heap.get? kS = some (seqObj "list" ks.toArray e)) (ha : s.heap.get? a = some (seqObj "list" #[] e1))
    (hl : ks.length = vs.length) (hz : vs.length ≤ sizeLine) (h1 : Srtd (lt2 ltk) (arrOf st).toList) (h2 : Stb (lt2 ltk) (arrOf st).toList (ks.zip vs)) (hf : failedOf st = none)
    (h : ∀ out tk, Good ltk ks vs out → R (.done (.ret .none)) { s with heap := endH s.heap a kS out, toks := tk }) :
    wpAny (model prog w) A (ksk_tail a false e1 (.ref kS) st) R E s := by
  have s1 := Heap.SameBut.update s.heap kS (Obj.mapSeq fun _ => (#[] : Array Value))
  have na1 : (s.heap.update kS (Obj.mapSeq fun _ => (#[] : Array Value))).get? a = some (seqObj "list" #[] e1) := (s1.2 a hka.symm).trans ha
  have hsz : (arrOf st).size = vs.length := by
    have q := h2.len
    rw [Array.length_toList, List.length_zip, hl, Nat.min_self] at q
    exact q
  unfold ksk_tail
  try dsimp only
  refine wpAny_bind (listUpdate_at hk rfl ?_ (by rw [List.size_toArray, hl]; exact hz) (Nat.zero_le _))
  refine wpAny_bind (wpAny_letGo ?_)
  refine wpAny_bind (seqEpoch_at na1 rfl ?_)
  refine wpAny_bind (listUpdate_at na1 rfl ?_ (Nat.zero_le _) ?_)
  · rw [hf]
    simp only [bne_self_eq_false, Bool.false_eq_true, if_false]
    have q := h ((arrOf st).toList.map (·.2)) s.toks ⟨_, h1, h2, rfl⟩
    have e2 : ((arrOf st).toList.map (·.2)).toArray = (arrOf st).map (·.2) := by
      apply Array.ext'
      simp
    unfold endH at q
    rw [e2] at q
    exact wpAny_pure q
  · simp only [Bool.false_eq_true, if_false, Array.size_map]
    omega
theorem end_ {ltk : Value → Value → Bool} {ks : List Value} {e : Nat} {R : PySem.Fin → Shared → Prop} (O : Swo ltk) (hka : kS ≠ a) (hk : s.heap.get? kS = some (seqObj "list" ks.toArray e)) (ha : s.heap.get? a = some (seqObj "list" #[] e1))
    (hl : ks.length = vs.length) (hz : vs.length ≤ sizeLine)
    (hS : 2 ≤ vs.length → ∃ κ, (∀ (Q : SortKind → Shared → Prop) (E : Value → Shared → Prop), Q κ s → wpAny (model prog w) A (keyKind' ks.toArray) Q E s) ∧ Cmp prog w A s κ (fun p => p.1 ∈ ks) (lt2 ltk))
    (h : ∀ out tk, Good ltk ks vs out → R (.done (.ret .none)) { s with heap := endH s.heap a kS out, toks := tk }) :
    wpAny (model prog w) A (ksk_end a false vs.toArray e1 (.ref kS) ks.toArray) R E s := by
  unfold ksk_end
  try dsimp only
  simp only [Bool.false_eq_true, if_false]
  by_cases h2 : vs.toArray.size < 2
  · rw [if_pos h2, if_pos h2]
    refine wpAny_bind (wpAny_pure ?_)
    rw [StateT.run_pure]
    refine wpAny_bind (wpAny_pure ?_)
    try dsimp only
    refine tail_ (st := SortSt.mk' general' (ks.toArray.zip vs.toArray) #[] 7 none) hka hk ha hl hz ?_ ?_ rfl h
    · show Srtd (lt2 ltk) (ks.toArray.zip vs.toArray).toList
      rw [zip_arr]
      rw [List.size_toArray] at h2
      match ks, vs, hl, h2 with
      | [], [], _, _ => exact List.Pairwise.nil
      | [k], [v], _, _ => exact List.pairwise_singleton _ _
      | _ :: _ :: _, _, hl, h2 => exact absurd h2 (by rw [← hl, List.length_cons, List.length_cons]; omega)
    · show Stb (lt2 ltk) (ks.toArray.zip vs.toArray).toList _
      rw [zip_arr]
      exact Stb.refl _
  · rw [if_neg h2, if_neg h2]
    rw [List.size_toArray] at h2
    obtain ⟨κ, hkind, hT⟩ := hS (by omega)
    refine wpAny_bind (hkind _ _ ?_)
    have hall : AllL (fun p : Keyed => p.1 ∈ ks) (ks.toArray.zip vs.toArray).toList := fun p hm => by
      rw [zip_arr] at hm
      exact (List.of_mem_zip hm).1
    refine wpAny_bind (wpAny_mono (wpS_sortO (st0 := SortSt.mk' κ (ks.toArray.zip vs.toArray) #[] 7 none)
      (Q := fun _ st' => Srtd (lt2 ltk) (arrOf st').toList ∧ Stb (lt2 ltk) (arrOf st').toList (ks.toArray.zip vs.toArray).toList ∧ failedOf st' = none) (swo2 O) hT rfl hall rfl rfl fun st' a1 a2 a3 => ⟨a1, a2, a3⟩) ?_ fun _ _ e => e)
    rintro ⟨⟨⟩, st'⟩ s' ⟨rfl, hp1, hp2, hf⟩
    try dsimp only
    rw [zip_arr] at hp2
    exact tail_ hka hk ha hl hz hp1 hp2 hf h
/-- the keys are asked one by one; J: what is kept meanwhile, of the keys so far and of the list that takes them -/
theorem rest_ {f : Value} {R : PySem.Fin → Shared → Prop} (J : List Value → Obj → Shared → Prop) (hka : kS ≠ a)
    (hJ : ∀ ks o s', J ks o s' → s'.heap.get? kS = some o ∧ s'.heap.get? a = some (seqObj "list" #[] e1))
    (up : ∀ ks o s' ks' c, J ks o s' → (s'.heap.update kS (Obj.mapSeq fun x => x.push ks')).get? kS = some c → c.cls = .type "list" → (∀ v, c.data ≠ .cell v) → J ks c { s' with heap := s'.heap.update kS (Obj.mapSeq fun x => x.push ks') })
    (step : ∀ i x ks o s', vs[i]? = some x → ks.length = i → J ks o s' → wpAny (model prog w) A (call f [x]) (fun k s'' => J (ks ++ [k]) o s'') (fun _ _ => False) s')
    (hz : vs.length ≤ sizeLine) (h0 : J [] (seqObj "list" #[] 0) s)
    (fin : ∀ ks e s', J ks (seqObj "list" ks.toArray e) s' → ks.length = vs.length → ∃ ltk : Value → Value → Bool, Swo ltk ∧
      (2 ≤ vs.length → ∃ κ, (∀ (Q : SortKind → Shared → Prop) (E : Value → Shared → Prop), Q κ s' → wpAny (model prog w) A (keyKind' ks.toArray) Q E s') ∧ Cmp prog w A s' κ (fun p => p.1 ∈ ks) (lt2 ltk)) ∧
      ∀ out tk, Good ltk ks vs out → R (.done (.ret .none)) { s' with heap := endH s'.heap a kS out, toks := tk }) :
    wpAny (model prog w) A (ksk_rest a f false vs.toArray e1 (.ref kS)) R E s := by
  unfold ksk_rest
  refine wpAny_bind (wpAny_rule ?_)
  first
    | rw [List.forIn_toArray]
    | (rw [← Array.forIn_toList]; simp only [List.toList_toArray])
    | rw [← Array.forIn_toList]
  refine wpAny_bind (ksk_fold (fun i s' => ∃ ks e, ks.length = i ∧ J ks (seqObj "list" ks.toArray e) s') vs 0 s ⟨[], 0, rfl, h0⟩ ?step ?done)
  case step =>
    rintro j x s' hx ⟨ks, e, hl, hj⟩
    simp only [Nat.zero_add] at hl ⊢
    have hlt : j < vs.length := (List.getElem?_eq_some_iff.mp hx).1
    refine wpAny_bind (wpAny_attempt (wpAny_mono (step j x ks _ s' hx hl hj) (fun k s'' he => ?_) fun _ _ hF => hF.elim))
    have nk := (hJ _ _ _ he).1
    obtain ⟨c2, hc2⟩ : ∃ c2, (s''.heap.update kS (Obj.mapSeq (·.push k))).get? kS = some (seqObj "list" (ks.toArray.push k) c2) := ⟨_, get?_update_seq nk (·.push k)⟩
    try dsimp only
    refine wpAny_bind (listUpdate_at nk rfl ?_ (by rw [List.size_toArray]; omega) (by rw [Array.size_push, List.size_toArray]; omega))
    refine wpAny_pure ⟨rfl, ks ++ [k], c2, by rw [List.length_append, hl]; rfl, ?_⟩
    have q := up _ _ _ k _ he hc2 rfl (fun v z => by cases z)
    have e3 : (ks ++ [k]).toArray = ks.toArray.push k := by simp
    rw [e3]
    exact q
  case done =>
    rintro s' ⟨ks, e, hl, hj⟩
    simp only [Nat.zero_add] at hl
    obtain ⟨nk, na⟩ := hJ _ _ _ hj
    try dsimp only
    refine wpAny_bind (listItems_at nk rfl ?_)
    obtain ⟨ltk, O, h1, h2⟩ := fin _ _ _ hj hl
    exact end_ O hka nk na hl hz h1 h2
end
end SrtQ

-- part: SK2
namespace L2
open PySem PySem.Spec PyProof.Rows SrtO SrtQ
/-- a value without its token -/
def toV : Value → V
  | .none => .non
  | .bool b => .bl b
  | .int i _ => .int i
  | .str x _ => .str x
  | .bytes b _ => .byt b
  | .float b _ => .flt b
  | .ref a => .ref a
  | .type n => .ty n
  | _ => .non
theorem toV_of {x : V} {u : Value} (r : RelV x u) : toV u = x := by
  cases x with
  | non => cases r; rfl
  | bl b => cases r; rfl
  | int i => obtain ⟨t, rfl⟩ := r; rfl
  | str x => obtain ⟨t, rfl⟩ := r; rfl
  | byt b => obtain ⟨t, rfl⟩ := r; rfl
  | flt b => obtain ⟨t, rfl⟩ := r; rfl
  | ref a => cases r; rfl
  | ty n => cases r; rfl
theorem vals_toV : ∀ {xs : List V} {us : List Value}, Vals xs us → xs = us.map toV
  | _, _, .nil => rfl
  | _, _, .cons r t => by rw [List.map_cons, toV_of r, ← vals_toV t]
theorem vals_mem : ∀ {xs : List V} {us : List Value}, Vals xs us → ∀ u ∈ us, RelV (toV u) u
  | _, _, .cons r t, u, h => by
    rcases List.mem_cons.mp h with e | h
    · rw [e, toV_of r]; exact r
    · exact vals_mem t u h
theorem vals_of : ∀ {us : List Value}, (∀ u ∈ us, RelV (toV u) u) → Vals (us.map toV) us
  | [], _ => .nil
  | u :: us, h => .cons (h u List.mem_cons_self) (vals_of fun v hv => h v (List.mem_cons_of_mem _ hv))
/-- an untracked object of ours is tracked from here on -/
theorem Inv.track {X : Cx} {pins : List (Addr × Obj)} {σ : St} {H : Hp} {s : Shared} {D : Addr} {o : HO} (I : Inv X pins σ H s) (fD : FpOk X pins H D) (new : ObjOk X.prog X.w (upd H D o) s.heap D o) : Inv X pins σ (upd H D o) s := by
  have hok : HOk X.prog X.w (upd H D o) s.heap := fun b u e => by
    by_cases hb : b = D
    · subst hb; rw [upd_same] at e; cases e; exact new
    · rw [upd_ne hb] at e
      exact (I.hok b u e).stay (fun c v _ q => q) (fun c q => by rw [upd_ne (ne_of_none q fD.1)]; exact q) fun c xs q => by rw [upd_ne (ne_of_none q fD.1)]; exact q
  have q := I.step (g' := s.gens) (d' := s.drawn) (t' := s.toks) (h' := s.heap) (H' := upd H D o) (ch := [D]) (fun b hb => by
      rw [List.mem_singleton.mp hb]
      exact ⟨fD.2.2.2.1, fD.2.1, fD.2.2.2.2.1, fD.2.2.2.2.2⟩)
    (fun b o _ _ _ e _ => e) (fun b o _ _ _ e _ => ⟨o.slots, e⟩) (fun b o hc e n => by rw [upd_ne fun z => hc (by rw [z]; exact List.mem_singleton.mpr rfl)]; exact n) (fun b o _ e => ⟨o, e⟩)
    (fun b xs e => by rw [upd_ne (ne_of_none e fD.1)]; exact e) (fun b o u e => by rw [upd_ne (ne_of_none e fD.1)]; exact e) (fun b ps e => ⟨#[], by rw [upd_ne (ne_of_none e fD.1), e]; simp⟩) (fun m h => h) hok I.bare
  exact q
section
variable {X : Cx} {pins : List (Addr × Obj)} {σ : St} {H : Hp} {s : Shared} {f : Value} {its : List Value} {xs : List V} {R : Result → Shared → Prop} {Q : VK}
/-- what is left of sorted once the items are gathered -/
def sortRest (its : List Value) (kw : List (Str × Value)) : Sem PySem.Fin := do
  let l ← newList its
  let _ ← holding [l] (call (.builtin "list.sort") [l] kw)
  ret l
/-- the pairs (key, item) in order -/
def GoodP (ltk : Value → Value → Bool) (ks its : List Value) (ps : List (Value × Value)) : Prop := Srtd (lt2 ltk) ps ∧ ps.Perm (ks.zip its)
theorem sort_part {E : Value → Shared → Prop} {Z : PySem.Fin → Shared → Prop} (I : Inv X pins σ H s) (rv : Vals xs its) (hz : its.length ≤ sizeLine) (W : List V → Hp → Prop) (w0 : W [] H)
    (ht : ∀ a : Addr, Builtin.«list.sort» ⟨[.ref a], [(Str.ofString "key", f)]⟩ = ksk_tree a f false) (ha2 : ∀ a, argsOk "list.sort" ⟨[a], [(Str.ofString "key", f)]⟩)
    (step : ∀ (pins' : List (Addr × Obj)) (s' : Shared) (H' : Hp) (i : Nat) (x : V) (u : Value) (kv : List V), (∀ p ∈ pins, p ∈ pins') → Inv X pins' σ H' s' → RelV x u → xs[i]? = some x → kv.length = i → W kv H' →
      wpAny (model X.prog X.w) X.A.in1.in1 (call f [u]) (fun k s'' => ∃ kx H'', RelV kx k ∧ Inv X pins' σ H'' s'' ∧ W (kv ++ [kx]) H'') (fun _ _ => False) s')
    (fin : ∀ (pins : List (Addr × Obj)) (kv : List V) (ks : List Value) (H' : Hp) (s' : Shared), Inv X pins σ H' s' → Vals kv ks → W kv H' → kv.length = xs.length → ∃ ltk : Value → Value → Bool, Swo ltk ∧
      (2 ≤ its.length → ∃ κ, (∀ (Q : SortKind → Shared → Prop) (E : Value → Shared → Prop), Q κ s' → wpAny (model X.prog X.w) X.A.in1.in1 (keyKind' ks.toArray) Q E s') ∧ Cmp X.prog X.w X.A.in1.in1 s' κ (fun p => p.1 ∈ ks) (lt2 ltk)) ∧
      ∀ ps : List (Value × Value), GoodP ltk ks its ps → ∀ p, H' p = none → Q (.ref p) (upd H' p (.lst (ps.map fun q => toV q.2))))
    (hZ : ∀ v s', EP X pins σ Q v s' → Z (.done (.ret v)) s') :
    wpAny (model X.prog X.w) X.A.in1 (sortRest its [(Str.ofString "key", f)]) Z E s := by
  unfold sortRest
  refine wpAny_bind (wpAny_newList ?_ hz)
  have ho : (s.heap.push (seqObj "list" its.toArray 0)).get? s.heap.objs.size = some (seqObj "list" its.toArray 0) := Heap.get?_push_size _ rfl
  generalize hD : s.heap.objs.size = D at *
  show wpAny _ _ _ _ _ { s with heap := s.heap.push (seqObj "list" its.toArray 0) }
  refine wpAny_bind (wpAny_holding (wpAny_call_entry_kw slot_list_sort ⟨_, ho, rfl⟩ entry_list_sort ?body (ha2 _)))
  case body =>
    show wpAny (model X.prog X.w) X.A.in1.in1 (Builtin.«list.sort» ⟨[.ref D], [(Str.ofString "key", f)]⟩) _ _ _
    rw [ht]
    unfold ksk_tree
    refine wpAny_bind (listItems_at ho rfl ?_)
    refine wpAny_bind (listUpdate_at ho rfl ?_ (by rw [List.size_toArray]; exact hz) (Nat.zero_le _))
    obtain ⟨e1, ho1⟩ : ∃ e1, ((s.heap.push (seqObj "list" its.toArray 0)).update D (Obj.mapSeq fun _ => (#[] : Array Value))).get? D = some (seqObj "list" #[] e1) := ⟨_, get?_update_seq ho fun _ => #[]⟩
    refine wpAny_bind (seqEpoch_at ho1 rfl ?_)
    refine wpAny_bind (wpAny_newTuple ?_ (by show its.length ≤ _; exact hz))
    refine wpAny_bind (wpAny_newList ?_ (Nat.zero_le _))
    refine wpAny_holding ?_
    have z1 : ((s.heap.push (seqObj "list" its.toArray 0)).update D (Obj.mapSeq fun _ => (#[] : Array Value))).objs.size = D + 1 := by rw [Heap.size_update, size_push', hD]
    have z2 : (((s.heap.push (seqObj "list" its.toArray 0)).update D (Obj.mapSeq fun _ => (#[] : Array Value))).push (seqObj "tuple" its.toArray 0)).objs.size = D + 2 := by rw [size_push', z1]
    have hk0 : ((((s.heap.push (seqObj "list" its.toArray 0)).update D (Obj.mapSeq fun _ => (#[] : Array Value))).push (seqObj "tuple" its.toArray 0)).push (seqObj "list" #[] 0)).get? (D + 2) = some (seqObj "list" #[] 0) := by
      rw [← z2]; exact Heap.get?_push_size _ rfl
    have hD0 : ((((s.heap.push (seqObj "list" its.toArray 0)).update D (Obj.mapSeq fun _ => (#[] : Array Value))).push (seqObj "tuple" its.toArray 0)).push (seqObj "list" #[] 0)).get? D = some (seqObj "list" #[] e1) :=
      Heap.get?_push_of_some _ (Heap.get?_push_of_some _ ho1)
    have keep : ∀ b o, s.heap.get? b = some o → ((((s.heap.push (seqObj "list" its.toArray 0)).update D (Obj.mapSeq fun _ => (#[] : Array Value))).push (seqObj "tuple" its.toArray 0)).push (seqObj "list" #[] 0)).get? b = some o := fun b o q => by
      have hlt : b < D := by rw [← hD]; exact Heap.lt_size q
      refine Heap.get?_push_of_some _ (Heap.get?_push_of_some _ ?_)
      rw [Heap.get?_update_ne _ _ _ _ (Nat.ne_of_lt hlt)]
      exact Heap.get?_push_of_some _ q
    rw [z2]
    have hl : its.length = xs.length := rv.length.symm
    generalize hG : ((((s.heap.push (seqObj "list" its.toArray 0)).update D (Obj.mapSeq fun _ => (#[] : Array Value))).push (seqObj "tuple" its.toArray 0)).push (seqObj "list" #[] 0)) = G at hk0 hD0 keep
    show wpAny _ _ (ksk_rest D f false its.toArray e1 (.ref (D + 2))) _ _ { s with heap := G }
    have I0 : Inv X pins σ H { s with heap := G } := I.kept (t' := s.toks) keep
    have fD : FpOk X pins H D := I.fpOk (Nat.le_of_eq hD) (I.hok.fresh (Nat.le_of_eq hD))
    have fS : FpOk X pins H (D + 2) := I.fpOk (by omega) (I.hok.fresh (by omega))
    -- the pins of the two lists
    have pin2 : ∀ {H' : Hp} {s' : Shared} {o : Obj}, Inv X pins σ H' s' → H' D = none → H' (D + 2) = none → s'.heap.get? (D + 2) = some o → o.cls = .type "list" → (∀ v, o.data ≠ .cell v) → s'.heap.get? D = some (seqObj "list" #[] e1) → Inv X (((D + 2, o) : Addr × Obj) :: (D, seqObj "list" #[] e1) :: pins) σ H' s' := by
      intro H' s' o I' n1 n2 h2 _ nc h1
      refine I'.pins_of fun p hp => ?_
      rcases List.mem_cons.mp hp with rfl | hp
      · exact ⟨h2, n2, fS.2.1, fS.2.2.1, nc⟩
      · rcases List.mem_cons.mp hp with rfl | hp
        · exact ⟨h1, n1, fD.2.1, fD.2.2.1, fun v z => by cases z⟩
        · exact I'.pin p (List.mem_append_right _ hp)
    have unp : ∀ {H' : Hp} {s' : Shared} {o : Obj}, Inv X (((D + 2, o) : Addr × Obj) :: (D, seqObj "list" #[] e1) :: pins) σ H' s' → Inv X pins σ H' s' := fun I' => I'.pins_of fun p hp => I'.pin p (List.mem_append_right _ (List.mem_cons_of_mem _ (List.mem_cons_of_mem _ hp)))
    have atp : ∀ {H' : Hp} {s' : Shared} {o : Obj}, Inv X (((D + 2, o) : Addr × Obj) :: (D, seqObj "list" #[] e1) :: pins) σ H' s' → (s'.heap.get? (D + 2) = some o ∧ H' (D + 2) = none ∧ ∀ v, o.data ≠ .cell v) ∧ s'.heap.get? D = some (seqObj "list" #[] e1) ∧ H' D = none := fun I' => by
      have a1 := I'.pin _ (List.mem_append_right _ List.mem_cons_self)
      have a2 := I'.pin _ (List.mem_append_right _ (List.mem_cons_of_mem _ List.mem_cons_self))
      exact ⟨⟨a1.1, a1.2.1, a1.2.2.2.2⟩, a2.1, a2.2.1⟩
    refine rest_ (s := { s with heap := G }) (fun ks o s' => o.cls = .type "list" ∧ ∃ kv H', Vals kv ks ∧ W kv H' ∧ Inv X (((D + 2, o) : Addr × Obj) :: (D, seqObj "list" #[] e1) :: pins) σ H' s') (show (D + 2 : Nat) ≠ D by omega)
      (fun ks o s' ⟨_, kv, H', _, _, I'⟩ => ⟨(atp I').1.1, (atp I').2.1⟩) ?up ?step hz ⟨rfl, [], H, .nil, w0, pin2 I0 fD.1 fS.1 hk0 rfl (fun v z => by cases z) hD0⟩ ?fin
    case up =>
      rintro ks o s' k c ⟨_, kv, H', rk, wk, I'⟩ hc hcl hcd
      obtain ⟨⟨a1, a2, a3⟩, b1, b2⟩ := atp I'
      refine ⟨hcl, kv, H', rk, wk, ?_⟩
      have fS' : FpOk X pins H' (D + 2) := ⟨a2, fS.2⟩
      have I2 : Inv X pins σ H' { s' with heap := s'.heap.update (D + 2) (Obj.mapSeq fun x => x.push k), toks := s'.toks } := (unp I').turnedL (ch := [D + 2]) (fun b u hb hu => by
        have nb : b ≠ D + 2 := fun z => hb (by rw [z]; exact List.mem_singleton.mpr rfl)
        rw [Heap.get?_update_ne _ _ _ _ nb]
        exact hu) fun b hb => by rw [List.mem_singleton.mp hb]; exact fS'
      refine pin2 I2 b2 a2 hc hcl (fun v z => ?_) ?_
      · exact hcd v z
      · show (s'.heap.update (D + 2) _).get? D = _
        rw [Heap.get?_update_ne _ _ _ _ (show (D : Nat) ≠ D + 2 by omega)]
        exact b1
    case step =>
      rintro i u ks o s' hu hl' ⟨hcl, kv, H', rk, wk, I'⟩
      obtain ⟨x, hx, rx⟩ : ∃ x, xs[i]? = some x ∧ RelV x u := by
        have hi : i < xs.length := by rw [← hl]; exact (List.getElem?_eq_some_iff.mp hu).1
        obtain ⟨u', e1, e2⟩ := rv.get (List.getElem?_eq_getElem hi)
        rw [hu] at e1; cases e1
        exact ⟨_, List.getElem?_eq_getElem hi, e2⟩
      refine wpAny_mono (step _ s' H' i x u kv (fun p hp => List.mem_cons_of_mem _ (List.mem_cons_of_mem _ hp)) I' rx hx (by rw [rk.length, hl']) wk) (fun k s'' ⟨kx, H'', rk2, I2, w2⟩ => ?_) fun _ _ e => e
      exact ⟨hcl, kv ++ [kx], H'', rk.append (.cons rk2 .nil), w2, I2⟩
    case fin =>
      rintro ks e s' ⟨_, kv, H', rk, wk, I'⟩ hkl
      obtain ⟨⟨a1, a2, a3⟩, b1, b2⟩ := atp I'
      obtain ⟨ltk, O, h1, h2⟩ := fin _ kv ks H' s' I' rk wk (by rw [rk.length, hkl, hl])
      refine ⟨ltk, O, h1, ?_⟩
      rintro out tk ⟨ps, g1, g2, rfl⟩
      have hp2 : (ps.map (·.2)).Perm its := by
        have q := g2.perm.map (·.2)
        rw [List.map_snd_zip (by omega)] at q
        exact q
      have I2 : Inv X pins σ H' { s' with heap := endH s'.heap D (D + 2) (ps.map (·.2)), toks := tk } := (unp I').turnedL (ch := [D + 2, D]) (fun b u hb hu => by
        unfold endH
        rw [Heap.get?_update_ne _ _ _ _ (fun z => hb (by rw [z]; exact List.mem_cons_of_mem _ (List.mem_singleton.mpr rfl))), Heap.get?_update_ne _ _ _ _ (fun z => hb (by rw [z]; exact List.mem_cons_self))]
        exact hu) fun b hb => by
          rcases List.mem_cons.mp hb with rfl | hb
          · exact ⟨a2, fS.2⟩
          · rw [List.mem_singleton.mp hb]; exact ⟨b2, fD.2⟩
      obtain ⟨c2, hc2⟩ : ∃ c2, (endH s'.heap D (D + 2) (ps.map (·.2))).get? D = some (seqObj "list" (ps.map (·.2)).toArray c2) := by
        have b3 : (s'.heap.update (D + 2) (Obj.mapSeq fun _ => (#[] : Array Value))).get? D = some (seqObj "list" #[] e1) := by
          rw [Heap.get?_update_ne _ _ _ _ (show (D : Nat) ≠ D + 2 by omega)]; exact b1
        exact ⟨_, get?_update_seq b3 fun _ => (ps.map fun x : Keyed => x.2).toArray⟩
      refine ⟨_, rfl, wpAny_pure (hZ _ _ ?_)⟩
      have hv : Vals (ps.map fun q => toV q.2) (ps.map (·.2)) := by
        have q := vals_of (us := ps.map (·.2)) fun u hu => vals_mem rv u (hp2.mem_iff.mp hu)
        rw [List.map_map] at q
        exact q
      refine ⟨.ref D, upd H' D (.lst (ps.map fun q => toV q.2)), ?_, rfl, h2 ps ⟨g1, g2.perm⟩ D b2⟩
      refine I2.track ⟨b2, fD.2⟩ ⟨?_, ps.map (·.2), c2, hv, hc2⟩
      rw [List.length_map, ← List.length_map (f := fun x : Keyed => x.2), hp2.length_eq]
      exact hz
end
end L2

-- part: SK3
namespace L2
open PySem PySem.Spec PyProof.Rows SrtO SrtQ
/-! ### the order of the keys -/
def numV : Value → Int
  | .int i _ => i
  | _ => 0
theorem swo_of {α : Type} (k : Value → α) {lt : α → α → Bool} (O : Swo lt) : Swo fun u v => lt (k u) (k v) := ⟨fun _ _ => O.asym _ _, fun _ _ _ => O.tr _ _ _⟩
theorem swo_int : Swo (fun a b : Int => decide (a < b)) := by
  refine ⟨fun x y h => ?_, fun x y z h1 h2 => ?_⟩
  · have := of_decide_eq_true h
    exact decide_eq_false (by omega)
  · have a := of_decide_eq_false h1
    have b := of_decide_eq_false h2
    exact decide_eq_false (by omega)
section
variable {prog : Program} {w : World} {A : Around} {s : Shared}
theorem ints_kind {ks : List Value} {kz : List Int} (hk : IntsAre ks kz) (h2 : 2 ≤ ks.length) : ∃ κ, (∀ (Q : SortKind → Shared → Prop) (E : Value → Shared → Prop), Q κ s → wpAny (model prog w) A (keyKind' ks.toArray) Q E s) ∧
    Cmp prog w A s κ (fun p => p.1 ∈ ks) (lt2 fun u v => decide (numV u < numV v)) := by
  refine ⟨oneType', fun Q E q => ?_, fun p q hp hq => ?_⟩
  · rw [ksk_kind (kz := kz) (by simpa using hk) (by rw [List.size_toArray]; exact h2)]
    exact wpAny_pure q
  · have at_ : ∀ u ∈ ks, ∃ i t, u = Value.int i t := by
      clear h2 hp hq
      induction hk with
      | nil => intro u hu; exact nomatch hu
      | cons _ _ _ ih =>
        intro u hu
        rcases List.mem_cons.mp hu with rfl | hu
        · exact ⟨_, _, rfl⟩
        · exact ih u hu
    obtain ⟨i, t, e1⟩ := at_ _ hp
    obtain ⟨j, t', e2⟩ := at_ _ hq
    show wpAny _ _ (keyLt' oneType' p.1 q.1) (fun r s' => s' = s ∧ r = decide (numV p.1 < numV q.1)) _ _
    rw [e1, e2]
    exact PySem.W.kat_lt_int ⟨rfl, rfl⟩
end
/-- the tuple at v is (n, c), c a tuple of ints -/
def KeyT (K : PySem.W.Frag) (H : Hp) (v : V) (k : Int × List Int) : Prop := ∃ t c, v = .ref t ∧ SqT K H t [.int k.1, .ref c] ∧ SqT K H c (k.2.map V.int)
def ltKT (a b : Int × List Int) : Bool := if a.1 = b.1 then HT.lexLt a.2 b.2 else decide (a.1 < b.1)
theorem lex_irrefl : ∀ a : List Int, HT.lexLt a a = false
  | [] => rfl
  | x :: a => by rw [HT.lexLt_cons, if_pos rfl]; exact lex_irrefl a
theorem lex_asym : ∀ a b : List Int, HT.lexLt a b = true → HT.lexLt b a = false
  | [], [], h => by cases h
  | [], y :: b, _ => rfl
  | x :: a, [], h => by cases h
  | x :: a, y :: b, h => by
    rw [HT.lexLt_cons] at h ⊢
    by_cases e : x = y
    · rw [if_pos e] at h; rw [if_pos e.symm]; exact lex_asym a b h
    · rw [if_neg e] at h; rw [if_neg (Ne.symm e)]
      have := of_decide_eq_true h
      exact decide_eq_false (by omega)
theorem lex_tr : ∀ a b c : List Int, HT.lexLt a b = false → HT.lexLt c a = false → HT.lexLt c b = false
  | [], [], [], _, _ => rfl
  | [], [], z :: c, _, _ => rfl
  | [], y :: b, _, h, _ => by cases h
  | x :: a, b, [], _, h => by cases h
  | x :: a, [], z :: c, _, _ => rfl
  | x :: a, y :: b, z :: c, h1, h2 => by
    rw [HT.lexLt_cons] at h1 h2 ⊢
    by_cases e1 : x = y
    · rw [if_pos e1] at h1
      by_cases e2 : z = x
      · rw [if_pos e2] at h2
        rw [if_pos (e2.trans e1)]
        exact lex_tr a b c h1 h2
      · rw [if_neg e2] at h2
        rw [if_neg (by rw [← e1]; exact e2)]
        have := of_decide_eq_false h2
        exact decide_eq_false (by omega)
    · rw [if_neg e1] at h1
      have d1 := of_decide_eq_false h1
      by_cases e2 : z = x
      · rw [if_neg (by rw [e2]; exact e1)]
        exact decide_eq_false (by omega)
      · rw [if_neg e2] at h2
        have d2 := of_decide_eq_false h2
        rw [if_neg (by omega)]
        exact decide_eq_false (by omega)
theorem lex_total : ∀ a b : List Int, HT.lexLt a b = false → HT.lexLt b a = false → a = b
  | [], [], _, _ => rfl
  | [], y :: b, h, _ => by cases h
  | x :: a, [], _, h => by cases h
  | x :: a, y :: b, h1, h2 => by
    rw [HT.lexLt_cons] at h1 h2
    by_cases e : x = y
    · rw [if_pos e] at h1; rw [if_pos e.symm] at h2
      rw [e, lex_total a b h1 h2]
    · rw [if_neg e] at h1; rw [if_neg (Ne.symm e)] at h2
      have d1 := of_decide_eq_false h1
      have d2 := of_decide_eq_false h2
      omega
theorem swo_KT : Swo ltKT := by
  refine ⟨fun x y h => ?_, fun x y z h1 h2 => ?_⟩
  · unfold ltKT at *
    by_cases e : x.1 = y.1
    · rw [if_pos e] at h; rw [if_pos e.symm]; exact lex_asym _ _ h
    · rw [if_neg e] at h; rw [if_neg (Ne.symm e)]
      have := of_decide_eq_true h
      exact decide_eq_false (by omega)
  · unfold ltKT at *
    by_cases e1 : y.1 = x.1
    · rw [if_pos e1] at h1
      by_cases e2 : z.1 = y.1
      · rw [if_pos e2] at h2
        rw [if_pos (e2.trans e1)]
        exact lex_tr _ _ _ h1 h2
      · rw [if_neg e2] at h2
        rw [if_neg (by rw [← e1]; exact e2)]
        have := of_decide_eq_false h2
        exact decide_eq_false (by omega)
    · rw [if_neg e1] at h1
      have d1 := of_decide_eq_false h1
      by_cases e2 : z.1 = y.1
      · rw [if_neg (by rw [e2]; exact e1)]
        exact decide_eq_false (by omega)
      · rw [if_neg e2] at h2
        have d2 := of_decide_eq_false h2
        rw [if_neg (by omega)]
        exact decide_eq_false (by omega)
theorem can_intsD : ∀ (l : List Int), PyData.canLayAll0 (l.map PyData.int) = true
  | [] => by simp [PyData.canLayAll0]
  | i :: r => by simp [PyData.canLayAll0, PyData.canLay0, can_intsD r]
theorem dep_intsD : ∀ (l : List Int), PyData.depthAll (l.map PyData.int) ≤ 1
  | [] => by simp [PyData.depthAll]
  | i :: r => by
    have h := dep_intsD r
    simp [PyData.depthAll, PyData.depth] <;> omega
theorem dpAll_ints {K : PySem.W.Frag} {H : Hp} : ∀ (l : List Int), DpAll K H (l.map V.int) (l.map PyData.int)
  | [] => .nil
  | i :: r => .cons (.int i) (dpAll_ints r)
theorem eqvAll_ints : ∀ a b : List Int, PyData.eqvAll (a.map PyData.int) (b.map PyData.int) = decide (a = b)
  | [], [] => by simp [PyData.eqvAll]
  | [], y :: b => by simp [PyData.eqvAll]
  | x :: a, [] => by simp [PyData.eqvAll]
  | x :: a, y :: b => by
    simp only [List.map_cons, PyData.eqvAll, PyData.eqv, eqvAll_ints a b]
    by_cases h : x = y <;> by_cases h2 : a = b <;> simp [h, h2]
section
variable {X : Cx} {pins : List (Addr × Obj)} {σ : St} {H : Hp} {s : Shared} {A : Around}
theorem kt_cmp (I : Inv X pins σ H s) (hu : A.units + 64 < cLine) {u u' : Value} {v v' : V} {k k' : Int × List Int} (ru : RelV v u) (ru' : RelV v' u') (h : KeyT X.K H v k) (h' : KeyT X.K H v' k') :
    wpAny (model X.prog X.w) A (keyLt' (tuples' true) u u') (fun r s' => s' = s ∧ r = ltKT k k') (fun _ _ => False) s := by
  obtain ⟨t, c, rfl, ht, hc⟩ := h
  obtain ⟨t', c', rfl, ht', hc'⟩ := h'
  cases ru
  cases ru'
  obtain ⟨i1, r1, ⟨o1, ho1, hcl1, n1, hd1⟩, _⟩ := I.tuple ht
  obtain ⟨i2, r2, ⟨o2, ho2, hcl2, n2, hd2⟩, _⟩ := I.tuple ht'
  obtain ⟨a1, b1, rfl, ⟨ta, rfl⟩, rb⟩ := vals2 r1
  obtain ⟨a2, b2, rfl, ⟨tb, rfl⟩, rb'⟩ := vals2 r2
  obtain rfl : b1 = Value.ref c := rb
  obtain rfl : b2 = Value.ref c' := rb'
  refine PySem.W.kat_lt ho1 hd1 ho2 hd2 ?_
  show PySem.W.KatLex X.prog X.w A true (decide (2 < 2)) _ [(.int k.1 ta, .int k'.1 tb), (.ref c, .ref c')] 0 s
  unfold ltKT
  refine PySem.W.kat_cons (SeqAt.EqAt.int_int k.1 ta k'.1 tb X.prog X.w _ _ ?_)
  refine PySem.W.kat_go (fun e1 => ?_) (fun e1 => ?_)
  · have ex : k.1 = k'.1 := by simpa using e1
    rw [if_pos ex]
    obtain ⟨as, q1⟩ := Dp.reads I (.tuple (k.2.map .int)) (.ref c) (.ref c) (.tup hc (dpAll_ints _)) rfl
    obtain ⟨bs, q2⟩ := Dp.reads I (.tuple (k'.2.map .int)) (.ref c') (.ref c') (.tup hc' (dpAll_ints _)) rfl
    have cl : ∀ l : List Int, (PyData.tuple (l.map .int)).canLay0 = true := fun l => by simp [PyData.canLay0, can_intsD]
    have dl : ∀ l : List Int, (PyData.tuple (l.map .int)).depth ≤ 2 := fun l => by have := dep_intsD l; simp only [PyData.depth]; omega
    refine PySem.W.kat_yes (PySem.W.kat_cons (PySem.SeqAt.eqBoolOverData X.prog X.w A _ s _ _ _ _ as bs _ q1 q2 (cl _) (cl _) (by have := dl k.2; omega) ?_))
    have ev : PyData.eqv (.tuple (k.2.map .int)) (.tuple (k'.2.map .int)) = decide (k.2 = k'.2) := by
      simp only [PyData.eqv]
      exact eqvAll_ints _ _
    rw [ev]
    refine PySem.W.kat_go (fun e2 => ?_) (fun e2 => ?_)
    · have ey : k.2 = k'.2 := of_decide_eq_true e2
      rw [ey, lex_irrefl]
      exact PySem.W.kat_yes (PySem.W.kat_nil ⟨rfl, rfl⟩)
    · obtain ⟨j1, s1, p1, _⟩ := I.tuple hc
      obtain ⟨j2, s2, p2, _⟩ := I.tuple hc'
      have g1 : IntsAre j1.toArray.toList k.2 := intsAre_of s1
      have g2 : IntsAre j2.toArray.toList k'.2 := intsAre_of s2
      refine PySem.W.kat_no (PySem.W.kat_one _ _ (HT.lt_tupInts p1 p2 g1 g2 (by omega) ?_))
      exact (show s = s ∧ HT.lexLt k.2 k'.2 = HT.lexLt k.2 k'.2 from ⟨rfl, rfl⟩)
  · have ex : ¬ k.1 = k'.1 := by simpa using e1
    rw [if_neg ex]
    exact PySem.W.kat_no (oneLt_int ⟨rfl, rfl⟩)
/-- the kind of such keys -/
theorem kt_kind (I : Inv X pins σ H s) : ∀ {kv : List V} {ks : List Value} {kz : List (Int × List Int)}, Vals kv ks → Paired (KeyT X.K H) kv kz → ∃ fs, PySem.W.KatTups s.heap ks fs ∧ fs.length = ks.length ∧ ∀ v ∈ fs, ∃ i t, v = Value.int i t
  | _, _, _, .nil, .nil => ⟨[], .nil, rfl, fun v h => nomatch h⟩
  | _, _, _, .cons r rs, .cons h hs => by
    obtain ⟨t, c, rfl, ht, hc⟩ := h
    cases r
    obtain ⟨i1, r1, ⟨o1, ho1, hcl1, n1, hd1⟩, _⟩ := I.tuple ht
    obtain ⟨a1, b1, rfl, ⟨ta, rfl⟩, rb⟩ := vals2 r1
    obtain ⟨fs, q1, q2, q3⟩ := kt_kind I rs hs
    refine ⟨_ :: fs, .cons ho1 hcl1 hd1 (f := .int _ ta) rfl q1, by rw [List.length_cons, List.length_cons, q2], fun v hv => ?_⟩
    rcases List.mem_cons.mp hv with rfl | hv
    · exact ⟨_, _, rfl⟩
    · exact q3 v hv
theorem paired_mem {α β : Type} {F : α → β → Prop} : ∀ {l : List α} {m : List β}, Paired F l m → ∀ x ∈ l, ∃ y ∈ m, F x y
  | _, _, .cons h t, x, hx => by
    rcases List.mem_cons.mp hx with rfl | hx
    · exact ⟨_, List.mem_cons_self, h⟩
    · obtain ⟨y, hy, q⟩ := paired_mem t x hx
      exact ⟨y, List.mem_cons_of_mem _ hy, q⟩
theorem KeyT.inj (I : Inv X pins σ H s) {v : V} {k k' : Int × List Int} (h : KeyT X.K H v k) (h' : KeyT X.K H v k') : k = k' := by
  obtain ⟨t, c, rfl, ht, hc⟩ := h
  obtain ⟨t', c', e, ht', hc'⟩ := h'
  cases e
  have e1 := I.tuple_inj ht ht'
  cases k with | mk n l => cases k' with | mk n' l' =>
  simp only [List.cons.injEq, V.int.injEq, V.ref.injEq, and_true] at e1
  obtain ⟨rfl, rfl⟩ := e1
  have e2 := I.tuple_inj hc hc'
  have e3 : l = l' := by
    have : ∀ a b : List Int, a.map V.int = b.map V.int → a = b := fun a b h => (List.map_inj_right (fun x y h => by cases h; rfl)).mp h
    exact this _ _ e2
  rw [e3]
/-- the key of a value, by what stands -/
noncomputable def keyOfV (K : PySem.W.Frag) (H : Hp) (u : Value) : Int × List Int := by
  classical exact if h : ∃ k, KeyT K H (toV u) k then h.choose else (0, [])
theorem keyOfV_eq (I : Inv X pins σ H s) {v : V} {u : Value} {k : Int × List Int} (r : RelV v u) (h : KeyT X.K H v k) : keyOfV X.K H u = k := by
  unfold keyOfV
  have e : ∃ k, KeyT X.K H (toV u) k := ⟨k, by rw [toV_of r]; exact h⟩
  rw [dif_pos e]
  have q : ∀ x, x = v → KeyT X.K H x e.choose → e.choose = k := fun x hx q => KeyT.inj I (hx ▸ q) h
  exact q (toV u) (toV_of r) e.choose_spec
theorem kt_all (I : Inv X pins σ H s) (hu : A.units + 64 < cLine) {kv : List V} {ks : List Value} {kz : List (Int × List Int)} (r : Vals kv ks) (p : Paired (KeyT X.K H) kv kz) (h2 : 2 ≤ ks.length) :
    ∃ κ, (∀ (Q : SortKind → Shared → Prop) (E : Value → Shared → Prop), Q κ s → wpAny (model X.prog X.w) A (keyKind' ks.toArray) Q E s) ∧ Cmp X.prog X.w A s κ (fun p => p.1 ∈ ks) (lt2 fun u v => ltKT (keyOfV X.K H u) (keyOfV X.K H v)) := by
  refine ⟨tuples' true, fun Q E q => ?_, fun a b ha hb => ?_⟩
  · obtain ⟨fs, q1, q2, q3⟩ := kt_kind I r p
    refine PySem.W.kat_kind (T := .type "int") q1 (by omega) (fun f hm => ?_) (by rfl) ?_
    · obtain ⟨x, t, rfl⟩ := q3 f hm
      exact PySem.W.Looks.now
    · have e : (Value.type "int" != Value.type "tuple") = true := by first | decide +kernel | rfl | decide
      rw [e]
      exact q
  · have at_ : ∀ u ∈ ks, ∃ v k, RelV v u ∧ KeyT X.K H v k := fun u hu => by
      have hv := vals_mem r u hu
      have hm : toV u ∈ kv := by rw [vals_toV r]; exact List.mem_map.mpr ⟨u, hu, rfl⟩
      obtain ⟨k, _, q⟩ := paired_mem p _ hm
      exact ⟨_, k, hv, q⟩
    obtain ⟨v, k, r1, q1⟩ := at_ _ ha
    obtain ⟨v', k', r2, q2⟩ := at_ _ hb
    show wpAny _ _ (keyLt' (tuples' true) a.1 b.1) (fun r s' => s' = s ∧ r = ltKT (keyOfV X.K H a.1) (keyOfV X.K H b.1)) _ _
    rw [keyOfV_eq I r1 q1, keyOfV_eq I r2 q2]
    exact kt_cmp I hu r1 r2 q1 q2
end
end L2

-- part: SK4
namespace L2
open PySem PySem.Spec PyProof.Rows SrtO SrtQ
/-- the keys, one by one, then the items by their keys -/
def SortGo (K : PySem.W.Frag) (rel : V → Hp → VK → Prop) (xs : List V) (H1 : Hp) (Q : VK) : Prop := ∃ W : List V → Hp → Prop, W [] H1 ∧
  (∀ i v kv H', xs[i]? = some v → kv.length = i → W kv H' → rel v H' fun k H'' => W (kv ++ [k]) H'') ∧
  ∀ kv H', W kv H' → kv.length = xs.length →
    (∃ kz : List Int, kv = kz.map V.int ∧ ∀ zs : List (Int × V), zs.Perm (kz.zip xs) → zs.Pairwise (fun p q => p.1 ≤ q.1) → ∀ p, H' p = none → Q (.ref p) (upd H' p (.lst (zs.map (·.2))))) ∨
    (∃ kz : List (Int × List Int), Paired (KeyT K H') kv kz ∧ ∀ zs : List ((Int × List Int) × V), zs.Perm (kz.zip xs) → zs.Pairwise (fun p q => ltKT q.1 p.1 = false) → ∀ p, H' p = none → Q (.ref p) (upd H' p (.lst (zs.map (·.2)))))
/-- f is a key: what a call of it promises -/
def KeyRel (X : Cx) (P : List (Addr × Obj)) (f : Value) (rel : V → Hp → VK → Prop) : Prop := ∀ (pins : List (Addr × Obj)) (s : Shared) (σ : St) (H : Hp) (x : V) (u : Value) (Q : VK), (∀ p ∈ P, p ∈ pins) → Inv X pins σ H s → RelV x u → rel x H Q →
  wpAny (model X.prog X.w) X.A.in1.in1 (call f [u]) (EP X pins σ Q) (fun _ _ => False) s
theorem KeyRel.mono {X : Cx} {P P' : List (Addr × Obj)} {f : Value} {rel : V → Hp → VK → Prop} (h : KeyRel X P f rel) (hp : ∀ p ∈ P, p ∈ P') : KeyRel X P' f rel := fun pins s σ H x u Q z => h pins s σ H x u Q fun p q => z p (hp p q)
theorem nums_of {ks : List Value} {kz : List Int} (h : IntsAre ks kz) : ks.map numV = kz := by
  induction h with
  | nil => rfl
  | cons _ _ _ ih => rw [List.map_cons, ih]; rfl
theorem paired_len {α β : Type} {F : α → β → Prop} : ∀ {l : List α} {m : List β}, Paired F l m → l.length = m.length
  | _, _, .nil => rfl
  | _, _, .cons _ t => by rw [List.length_cons, List.length_cons, paired_len t]
theorem vals_at : ∀ {xs : List V} {us : List Value}, xs.length = us.length → (∀ (j : Nat) (u : Value), us[j]? = some u → ∃ x, xs[j]? = some x ∧ RelV x u) → Vals xs us
  | [], [], _, _ => .nil
  | [], _ :: _, h, _ => by simp at h
  | _ :: _, [], h, _ => by simp at h
  | x :: xs, u :: us, h, q => by
    obtain ⟨x', e, r⟩ := q 0 u rfl
    cases e
    exact .cons r (vals_at (by simpa using h) fun j u' hu => q (j + 1) u' hu)
section
variable {X : Cx} {pins : List (Addr × Obj)} {σ : St} {H : Hp} {s : Shared} {f : Value} {its : List Value} {xs : List V} {Q : VK} {rel : V → Hp → VK → Prop}
theorem keys_of {H' : Hp} {s' : Shared} (I : Inv X pins σ H' s') : ∀ {kv : List V} {ks : List Value} {kz : List (Int × List Int)}, Vals kv ks → Paired (KeyT X.K H') kv kz → ks.map (keyOfV X.K H') = kz
  | _, _, _, .nil, .nil => rfl
  | _, _, _, .cons r rs, .cons h hs => by rw [List.map_cons, keyOfV_eq I r h, keys_of I rs hs]
theorem sort_go {E : Value → Shared → Prop} {Z : PySem.Fin → Shared → Prop} (hu : X.A.units + 100 < cLine) (I : Inv X pins σ H s) (rv : Vals xs its) (hz : its.length ≤ sizeLine) (g : SortGo X.K rel xs H Q) (hf : KeyRel X pins f rel)
    (ht : ∀ a : Addr, Builtin.«list.sort» ⟨[.ref a], [(Str.ofString "key", f)]⟩ = ksk_tree a f false) (hZ : ∀ v s', EP X pins σ Q v s' → Z (.done (.ret v)) s') :
    wpAny (model X.prog X.w) X.A.in1 (sortRest its [(Str.ofString "key", f)]) Z E s := by
  obtain ⟨W, w0, w1, w2⟩ := g
  refine sort_part I rv hz W w0 ht (fun a => ksk_l1 _ _) (fun pins' s' H' i x u kv hp I' rx hx hl wk => ?_) (fun pins kv ks H' s' I' rk wk hl => ?_) hZ
  · refine wpAny_mono (hf pins' s' σ H' x u _ hp I' rx (w1 i x kv H' hx hl wk)) (fun k s'' ⟨kx, H'', a, b, c⟩ => ⟨kx, H'', b, a, c⟩) fun _ _ e => e
  · have lk : ks.length = its.length := by rw [← rk.length, hl, rv.length]
    rcases w2 kv H' wk hl with ⟨kz, rfl, q⟩ | ⟨kz, pk, q⟩
    · have ik := intsAre_of rk
      refine ⟨fun u v => decide (numV u < numV v), swo_of numV swo_int, fun h2 => ints_kind ik (by omega), fun ps g p hp => ?_⟩
      have e1 : (ps.map fun z => (numV z.1, toV z.2)).Perm (kz.zip xs) := by
        have q := g.2.map fun z : Value × Value => (numV z.1, toV z.2)
        have e : (ks.zip its).map (fun z : Value × Value => (numV z.1, toV z.2)) = kz.zip xs := by
          rw [vals_toV rv, ← nums_of ik, List.zip_map]
          rfl
        rw [e] at q
        exact q
      have e2 : (ps.map fun z => (numV z.1, toV z.2)).Pairwise (fun p q => p.1 ≤ q.1) := by
        refine List.pairwise_map.mpr (g.1.imp fun h => ?_)
        have := of_decide_eq_false h
        show numV _ ≤ numV _
        omega
      have z := q _ e1 e2 p hp
      rw [List.map_map] at z
      exact z
    · refine ⟨fun u v => ltKT (keyOfV X.K H' u) (keyOfV X.K H' v), swo_of (keyOfV X.K H') swo_KT, fun h2 => kt_all I' (by show X.A.units + 1 + 1 + 64 < _; omega) rk pk (by omega), fun ps g p hp => ?_⟩
      have e1 : (ps.map fun z => (keyOfV X.K H' z.1, toV z.2)).Perm (kz.zip xs) := by
        have q := g.2.map fun z : Value × Value => (keyOfV X.K H' z.1, toV z.2)
        have e : (ks.zip its).map (fun z : Value × Value => (keyOfV X.K H' z.1, toV z.2)) = kz.zip xs := by
          rw [vals_toV rv, ← keys_of I' rk pk, List.zip_map]
          rfl
        rw [e] at q
        exact q
      have e2 : (ps.map fun z => (keyOfV X.K H' z.1, toV z.2)).Pairwise (fun p q => ltKT q.1 p.1 = false) := List.pairwise_map.mpr (g.1.imp fun h => h)
      have z := q _ e1 e2 p hp
      rw [List.map_map] at z
      exact z
/-- the key's function: what the expression gives -/
def KeyOf (X : Cx) (ke : Expr) (f : Value) : Prop := ∀ (pins : List (Addr × Obj)) (s : Shared) (σ : St) (H : Hp) (R : Value → Shared → Prop), Inv X pins σ H s → R f s → wpAny (model X.prog X.w) X.A (eval ke X.env) R X.xe s
theorem key_abs {p : Pos} (hg : Gl X "abs") (hm : X.mg "abs" = none) : KeyOf X (.Name "abs" p) (.builtin "abs") := fun pins s σ H R I h => ld_blt I hg hm (by decide +kernel) h (by decide)
theorem key_def {x : Str} {p : Pos} {q : Addr} (hg : Gl X x) (hm : X.mg x = some (.ref q)) (hd : (x == ("__debug__" : Str)) = false := by decide) : KeyOf X (.Name x p) (.ref q) := fun pins s σ H R I h => ld_glob I hg hm h hd
theorem rel_abs {P : List (Addr × Obj)} : KeyRel X P (.builtin "abs") (fun x H Q => ∃ i, x = .int i ∧ Q (.int (if i < 0 then -i else i)) H) := by
  intro pins s σ H x u Q _ I r h
  obtain ⟨i, rfl, q⟩ := h
  obtain ⟨t, rfl⟩ := r
  exact call_abs_int fun u tk => ⟨.int (if i < 0 then -i else i), H, I.tok _, ⟨_, rfl⟩, q⟩
theorem rel_def {P : List (Addr × Obj)} {k : Nat} {q : Addr} {fd : FuncData} {x : Str} {sp : Sp} (F : FnOk X.prog X.w X.K X.mg X.base CX0 k q fd [x] sp) (hr : Room (k + 2) X.A) (hb : Binds X.K fd [x] []) : KeyRel X P (.ref q) (fun x H Q => sp [x] H Q E0) := by
  intro pins s σ H x u Q _ I r h
  have hl : ([u] ++ ([] : List Value)).length = 1 := rfl
  refine wpAny_call (codeAny_mono (F.run X.A.in1.in1 X.stack s H ⟨[u], []⟩ [u] [x] Q E0 hr.in1.in1 I.env0.in1.in1 (by have := hb s [u] I.kIn (by rfl); exact this) (.cons r .nil) h) fun r s' hq => ?_)
  cases r with
  | error e => exact hq.elim
  | ok fl =>
    cases fl with
    | ret u => exact I.after hq
    | next => exact False.elim hq
    | brk => exact False.elim hq
    | cont => exact False.elim hq
/-! ### sorted(e, key=ke) -/
/-- of a list; of a dict with ints and texts as keys; of one with tuples -/
def rSortL (K : PySem.W.Frag) (rel : V → Hp → VK → Prop) : V → Hp → VK → Prop := fun x H Q => ∃ a xs, x = .ref a ∧ SqL K H a xs ∧ SortGo K rel xs H Q
def rSortD (K : PySem.W.Frag) (rel : V → Hp → VK → Prop) : V → Hp → VK → Prop := fun x H Q => ∃ a kvs, x = .ref a ∧ Rd H a (.dK kvs) ∧ SortGo K rel (kvs.map fun z => kV z.1) H Q
def rSortT (K : PySem.W.Frag) (rel : V → Hp → VK → Prop) : V → Hp → VK → Prop := fun x H Q => ∃ a kvs, x = .ref a ∧ Rd H a (.dT kvs) ∧ ∀ bs, IsKeys H kvs bs → SortGo K rel (bs.map V.ref) H Q
def tSorted (r : V → Hp → VK → Prop) (t : TA) : TE := fun σ H Q => t σ H fun vs H1 => ∃ x, vs = [x] ∧ r x H1 Q
def RunS (X : Cx) (P : List (Addr × Obj)) (f : Value) (r : V → Hp → VK → Prop) : Prop := ∀ (pins : List (Addr × Obj)) (s : Shared) (σ : St) (H : Hp) (x : V) (u : Value) (Q : VK), (∀ p ∈ P, p ∈ pins) → Inv X pins σ H s → RelV x u → r x H Q →
  wpAny (model X.prog X.w) X.A (call (.builtin "sorted") [u] [(Str.ofString "key", f)]) (EP X pins σ Q) X.xe s
theorem pe_sorted {e ke : Expr} {t : TA} {p pos kpos : Pos} {r : V → Hp → VK → Prop} (run : RunS X [] f r) (hk : KeyOf X ke f) (hg : Gl X "sorted") (hm : X.mg "sorted" = none) (ha : PA X [e] t)
    (h1 : backTo pos (starEach [e] X.env) = (false, eval e X.env) :: backTo pos (starEach [] X.env) := by rfl) (hpl : (backTo pos (starEach [e] X.env)).any (·.1) = false := by rfl)
    (hall : (backToKw pos (keywordEach [⟨some "key", ke, kpos⟩] X.env)).all (·.1.isSome) = true := by rfl) (hnone : (backToKw pos (keywordEach [⟨some "key", ke, kpos⟩] X.env)).any (·.1.isNone) = false := by rfl) :
    PE X (.Call (.Name "sorted" p) [e] [⟨some "key", ke, kpos⟩] pos) (tSorted r t) := by
  refine ⟨fun pins s σ H Q I h => ?_⟩
  refine wpAny_Call_Name_kw (ld_blt I hg hm (u := .builtin "sorted") (by decide +kernel) ?_ (by decide))
  refine PyProof.Rows.callWith_kw (thn (ha.run pos pins s σ H _ I h) fun us s1 ⟨vs, H1, I1, r1, x, ex, q1⟩ => ?_) h1 hpl hall hnone
  subst ex
  obtain ⟨u, rfl, ru⟩ := vals1 r1
  show wpAny _ _ (evalAll ((do let v ← eval ke X.env; standAt pos; pure v) :: [])) _ _ s1
  refine wpAny_evalAll_cons (wpAny_bind (hk pins s1 σ H1 _ I1 (wpAny_bind (wpAny_standAt (wpAny_pure ?_)))))
  refine wpAny_evalAll_nil ?_
  exact run pins s1 σ H1 x u Q (fun _ z => nomatch z) I1 ru q1
theorem run_list {P : List (Addr × Obj)} (hu : X.A.units + 100 < cLine) (hf : KeyRel X P f rel) (ht : ∀ a : Addr, Builtin.«list.sort» ⟨[.ref a], [(Str.ofString "key", f)]⟩ = ksk_tree a f false) : RunS X P f (rSortL X.K rel) := by
  intro pins s σ H x u Q hP I r h
  obtain ⟨a, xs, rfl, hs, g⟩ := h
  cases r
  obtain ⟨its, rv, hl, hz⟩ := I.list hs
  have hz' : its.length ≤ sizeLine := by rw [← rv.length]; exact hz
  refine call_function_entry_kw kind_sorted plain_sorted entry_sorted (ksk_s1 _ _) ?_
  unfold Builtin.«sorted»
  refine wpAny_bind (m := checkCount "sorted" 1 1 _) (wpAny_pure ?_)
  refine wpAny_bind (collect_list hl.isList ?_ hz')
  have I1 : Inv X pins σ H { s with heap := (s.heap.push (seqObj "list" #[] 0)).update s.heap.objs.size (Obj.mapSeq (· ++ its.toArray)) } := I.kept (t' := s.toks) fun b o e => by
    rw [Heap.get?_update_ne _ _ _ _ (Nat.ne_of_lt (Heap.lt_size e))]
    exact Heap.get?_push_of_some _ e
  exact sort_go hu I1 rv hz' g (hf.mono hP) ht fun v s' h => ⟨v, rfl, h⟩
theorem run_dict {P : List (Addr × Obj)} (hcalm : X.calm = true) (hu : X.A.units + 100 < cLine) (hf : KeyRel X P f rel) (ht : ∀ a : Addr, Builtin.«list.sort» ⟨[.ref a], [(Str.ofString "key", f)]⟩ = ksk_tree a f false) : RunS X P f (rSortD X.K rel) := by
  intro pins s σ H x u Q hP I r h
  obtain ⟨a, kvs, rfl, hd, g⟩ := h
  cases r
  obtain ⟨z, lo, vs, rel', dd⟩ := dk_rd I.hok hd
  obtain ⟨ep, hat⟩ := dd.dictAt
  have hkeys : vs.map (·.1) = kvs.map (·.1) := rel'.keys.symm
  have hl : vs.length = kvs.length := by
    have e := congrArg List.length hkeys
    rw [List.length_map, List.length_map] at e
    exact e
  refine call_function_entry_kw kind_sorted plain_sorted entry_sorted (ksk_s1 _ _) ?_
  unfold Builtin.«sorted»
  refine wpAny_bind (m := checkCount "sorted" 1 1 _) (wpAny_pure ?_)
  refine wpAny_bind (PySem.W.kdu_collect (A := X.A.in1) (PySem.W.kdl_dict (knd := mixKind X.prog X.w) (kvs := vs) (ep := ep) lo) (I.ok.hd hcalm) hat (by rw [hl]; exact z) fun h' tk acc hk hacc => ?_)
  have hal : acc.toList.length = kvs.length := by rw [Array.length_toList, hacc.1, hl]
  have rv : Vals (kvs.map fun z => kV z.1) acc.toList := vals_at (by rw [List.length_map, hal]) fun j v e => by
    obtain ⟨k, x, e1, e2⟩ := hacc.2 j v (by rw [← Array.getElem?_toList]; exact e)
    have e3 : (vs.map (·.1))[j]? = some k := by rw [List.getElem?_map, e1]; rfl
    rw [hkeys, List.getElem?_map] at e3
    rw [List.getElem?_map]
    cases e4 : kvs[j]? with
    | none => rw [e4] at e3; cases e3
    | some y =>
      rw [e4] at e3
      have e5 : y.1 = k := Option.some.inj e3
      refine ⟨kV y.1, rfl, ?_⟩
      rw [e5]
      exact keyIs_rel e2
  have I1 : Inv X pins σ H { s with heap := h', toks := tk } := I.kept hk
  exact sort_go hu I1 rv (by rw [hal]; exact z) g (hf.mono hP) ht fun v s' h => ⟨v, rfl, h⟩
theorem run_dictT {P : List (Addr × Obj)} (hcalm : X.calm = true) (hu : X.A.units + 100 < cLine) (hf : KeyRel X P f rel) (ht : ∀ a : Addr, Builtin.«list.sort» ⟨[.ref a], [(Str.ofString "key", f)]⟩ = ksk_tree a f false) : RunS X P f (rSortT X.K rel) := by
  intro pins s σ H x u Q hP I r h
  obtain ⟨d, kvs, rfl, hd, g⟩ := h
  cases r
  obtain ⟨z, hs, ks, pr, o, es, ep, ho, hx, hdt, he, hn⟩ := (show ObjOk X.prog X.w H s.heap d (.dT kvs) from hd.ok I.hok)
  have l1 : es.size = ks.length := size_of_entries he
  have l2 : kvs.length = ks.length := Paired.length pr
  refine call_function_entry_kw kind_sorted plain_sorted entry_sorted (ksk_s1 _ _) ?_
  unfold Builtin.«sorted»
  refine wpAny_bind (m := checkCount "sorted" 1 1 _) (wpAny_pure ?_)
  refine wpAny_bind (PySem.W.kdu_collect (A := X.A.in1) (kdl_raw hs hx hdt) (I.ok.hd hcalm) ho (by omega) fun h' tk acc' kp it => ?_)
  have ea : acc'.toList = ks.map fun x => Value.ref x.2.1 := by
    have hl : acc'.toList.length = ks.length := by rw [Array.length_toList, it.1]; exact l1
    apply List.ext_getElem?
    intro j
    rw [List.getElem?_map]
    cases hj : acc'.toList[j]? with
    | none =>
      have h1 := List.getElem?_eq_none_iff.mp hj
      rw [List.getElem?_eq_none (by omega)]
      all_goals rfl
    | some v =>
      obtain ⟨en, hen, hv⟩ := it.2 j v (by rw [← Array.getElem?_toList]; exact hj)
      have qe := entry_at he j
      rw [hen] at qe
      cases hb : ks[j]? with
      | none =>
        rw [hb] at qe
        exact nomatch (show some en = none from qe)
      | some b =>
        rw [hb] at qe
        have e2 : en = entryOfKey (tupleKind (mixKind X.prog X.w)) b := Option.some.inj qe
        rw [hv, e2]
        all_goals rfl
  have eb : acc'.toList = (ks.map fun x => x.2.1).map Value.ref := by rw [ea, List.map_map]; all_goals rfl
  have rv : Vals ((ks.map fun x => x.2.1).map V.ref) acc'.toList := by rw [eb]; exact vals_refs _
  have I1 : Inv X pins σ H { s with heap := h', toks := tk } := I.kept kp
  exact sort_go hu I1 rv (by rw [ea, List.length_map]; omega) (g _ (isKeys_of pr)) (hf.mono hP) ht fun v s' h => ⟨v, rfl, h⟩
end
end L2

-- part: SK5
namespace L2
open PySem PySem.Spec PyProof.Rows SrtO SrtQ LamX
section
variable {X : Cx} {pins : List (Addr × Obj)} {σ : St} {H : Hp} {s : Shared} {xs : List V} {Q : VK}
abbrev lamQ (X : Cx) : Str := X.env.qual ++ "<lambda>"
/-- a lambda of one parameter, no captured names: its call -/
theorem rel_lam {k : Nat} {f c' : Addr} {x : Str} {params : Arguments} {body : Expr} {scope : Scope} {pm ctv : Value} {tb : TE} (S : FnScope [x] [x] scope) (hr : Room (k + 3) X.A)
    (hbind : ∀ u : Value, bindArgs (PySem.W.kla_fn "<lambda>" (lamQ X) params body scope [] pm (.ref c') ctv) ⟨[u], []⟩ = pure [(x, u)])
    (hbody : ∀ (A : Around) (outer : List Env) (s : Shared) (H : Hp), Room k (A.deeper (envOfC (lamQ X) scope s.heap.objs.size f (.ref c'))) → PE (cxOf CX0 X.prog X.w X.K X.mg X.base [x] (lamQ X) scope f (.ref c') A outer s H E0) body tb) :
    KeyRel X [(f, PySem.W.kla_obj "<lambda>" (lamQ X) params body scope [] pm c' ctv)] (.ref f) (fun v H Q => H c' = some (CodeO c' (lamQ X)) ∧ tb [some v] H Q) := by
  intro pins s σ H v u Q hP I r ⟨hc, ht⟩
  have hf : s.heap.get? f = some (PySem.W.kla_obj "<lambda>" (lamQ X) params body scope [] pm c' ctv) := (I.pin _ (List.mem_append_right _ (hP _ List.mem_cons_self))).1
  obtain ⟨⟨oc, vs, t, hoc, hdc, hvc⟩, _, _⟩ := I.hok c' _ hc
  have hr2 : Room (k + 1) X.A.in1.in1 := hr.in1.in1
  have rc : codeAny (model X.prog X.w) X.A.in1.in1 (.call (.ref f) ⟨[u], []⟩) (CR CX0 X.stack X.prog X.w H s Q E0) s := by
    refine PySem.W.kla_callFunE hr2.depth hf rfl S.co S.gen rfl ⟨c', oc, vs, t, rfl, hoc, hdc, hvc⟩ ?_
    rw [hbind]
    have hkind : ∀ y ∈ [x].zip [u], scope.names.lookup y.1 = some .local ∨ (scope.names.lookup y.1 = some .cell ∧ ((cellsFrom (s.heap.objs.size + 1) scope.names []).lookup y.1).isSome = true) := fun ⟨n, v⟩ hy => by
      rcases S.par n (List.of_mem_zip hy).1 with q | q
      · exact .inl q
      · exact .inr ⟨q, PySem.W.cellsFrom_some _ _ _ (.inl q)⟩
    refine wpAny_pure (wpAny_newFunctionEnv_cells S.kind hkind fun env he s1 z => ?_)
    subst he
    refine ⟨I.nolimit.keeps z.toInCall.keep, ?_⟩
    have J : Inv (cxOf CX0 X.prog X.w X.K X.mg X.base [x] (lamQ X) scope f (.ref c') X.A.in1.in1 X.stack s H E0) [] (start [x] [v]) H s1 := inv_start S hr2.hd I.env0.in1.in1 rfl (.cons r .nil) z
    refine PySem.W.kla_codeExpr (wpAny_mono ((hbody _ _ s H (hr2.deeper _)).run [] _ _ H Q J ht) (fun v' s' hq => ?_) fun e s' hq => hq)
    obtain ⟨w', H', J', rv, q⟩ := hq
    exact ⟨w', H', J'.os, J'.bare, J'.base, J'.hok, rv, q⟩
  refine wpAny_call (codeAny_mono rc fun r s' hq => ?_)
  cases r with
  | error e => exact hq.elim
  | ok fl =>
    cases fl with
    | ret u => exact I.after hq
    | next => exact False.elim hq
    | brk => exact False.elim hq
    | cont => exact False.elim hq
/-- sorted(e, key=lambda x: body) -/
def tSortedLam (X : Cx) (T : List (Addr × Str)) (r : Addr → V → Hp → VK → Prop) (t : TA) : TE := fun σ H Q => t σ H fun vs H1 => ∃ x, vs = [x] ∧ Tabs T H1 ∧ ∀ c' H2, ExtN H1 H2 → Tabs T H2 → H2 c' = some (CodeO c' (lamQ X)) → r c' x H2 Q
theorem pe_sortedLam {e : Expr} {t : TA} {p pos kpos lpos : Pos} {r : Addr → V → Hp → VK → Prop} {T : List (Addr × Str)} {c P : Addr} {params : Arguments} {body : Expr} {scope : Scope}
    (run : ∀ (f c' : Addr) (pm ctv : Value), RunS X [(f, PySem.W.kla_obj "<lambda>" (lamQ X) params body scope [] pm c' ctv)] (.ref f) (r c')) (TB : TabB X.base X.mg c P) (hcode : X.env.code = .ref c)
    (hT : (P, lamQ X) ∈ T) (hu : ∀ p ∈ T, p.1 = P → p.2 = lamQ X) (hcl : cloFrom X.env.cells scope.names [] = []) (hfree : ∀ y ∈ scope.names, y.2 ≠ .free)
    (hg : Gl X "sorted") (hm : X.mg "sorted" = none) (ha : PA X [e] t) (hdef : defaultsOf params X.env = ([], []) := by rfl)
    (h1 : backTo pos (starEach [e] X.env) = (false, eval e X.env) :: backTo pos (starEach [] X.env) := by rfl) (hpl : (backTo pos (starEach [e] X.env)).any (·.1) = false := by rfl)
    (hall : (backToKw pos (keywordEach [⟨some "key", .Lambda params body scope lpos, kpos⟩] X.env)).all (·.1.isSome) = true := by rfl) (hnone : (backToKw pos (keywordEach [⟨some "key", .Lambda params body scope lpos, kpos⟩] X.env)).any (·.1.isNone) = false := by rfl) :
    PE X (.Call (.Name "sorted" p) [e] [⟨some "key", .Lambda params body scope lpos, kpos⟩] pos) (tSortedLam X T r t) := by
  refine ⟨fun pins s σ H Q I h => ?_⟩
  refine wpAny_Call_Name_kw (ld_blt I hg hm (u := .builtin "sorted") (by decide +kernel) ?_ (by decide))
  refine PyProof.Rows.callWith_kw (thn (ha.run pos pins s σ H _ I h) fun us s1 ⟨vs, H1, I1, r1, x, ex, hTab, q1⟩ => ?_) h1 hpl hall hnone
  subst ex
  obtain ⟨u, rfl, ru⟩ := vals1 r1
  show wpAny _ _ (evalAll ((do let v ← eval (.Lambda params body scope lpos) X.env; standAt pos; pure v) :: [])) _ _ s1
  refine wpAny_evalAll_cons (wpAny_bind (lam_make2 I1 TB hcode hT hu hTab hdef (fun y hy e => absurd e (hfree y hy)) fun f c' pm ctv H2 s2 I2 e2 t2 hf nf nfr hc => wpAny_bind (wpAny_standAt (wpAny_pure ?_))))
  refine wpAny_evalAll_nil ?_
  rw [hcl] at hf
  have nL : f ≠ X.env.locals := fun z => by
    obtain ⟨m, ⟨o, es, ep, ho, hd, _⟩, _⟩ := I2.loc
    rw [z, ho] at hf; cases hf
    cases hd
  have nF : f ∉ X.fs := fun z => nfr (by
    rcases I2.ok.stk with e | ⟨e, hfr⟩
    · rw [e]; exact z
    · rw [e]
      show f ∈ frs (X.env :: X.outer)
      unfold frs
      rw [List.filterMap_cons, hfr]
      exact List.mem_cons_of_mem _ z)
  have I3 : Inv X ((f, PySem.W.kla_obj "<lambda>" (lamQ X) params body scope [] pm c' ctv) :: pins) σ H2 s2 := I2.pins_of fun p hp => by
    rcases List.mem_cons.mp hp with rfl | hp
    · exact ⟨hf, nf, nL, nF, fun v z => by cases z⟩
    · exact I2.pin p (List.mem_append_right _ hp)
  refine thn (run f c' pm ctv _ s2 σ H2 x u Q (fun p hp => by rw [List.mem_singleton.mp hp]; exact List.mem_cons_self) I3 ru (q1 c' H2 e2 t2 hc)) fun v s3 ⟨y, H3, I4, r4, q4⟩ => ?_
  exact ⟨y, H3, I4.pins_of fun p hp => I4.pin p (List.mem_append_right _ (List.mem_cons_of_mem _ hp)), r4, q4⟩
end
end L2

-- part: TY1
namespace L2
open PySem PySem.Spec PyProof.Rows
/-- the built-in classes that are compared -/
def Kn (n : String) : Prop := n = "int" ∨ n = "str" ∨ n = "bool" ∨ n = "NoneType" ∨ n = "list" ∨ n = "tuple" ∨ n = "dict" ∨ n = "bytes"
theorem Kn.is {n : String} (h : Kn n) (s : Shared) : s.TypeIs (.type n) "type" := by
  rcases h with rfl | rfl | rfl | rfl | rfl | rfl | rfl | rfl
  · exact TypeEq.meta_int s
  · exact TypeEq.meta_str s
  · exact TypeEq.meta_bool s
  · exact TypeEq.meta_NoneType s
  · exact TypeEq.meta_list s
  · exact TypeEq.meta_tuple s
  · exact TypeEq.meta_dict s
  · exact TypeEq.meta_bytes s
theorem Kn.ty {K : PySem.W.Frag} {H : Hp} {x : V} {T : String} (t : TyB K H x T) : Kn T := by cases t <;> simp [Kn]
theorem eqAt_ty {a b : String} (ha : Kn a) (hb : Kn b) (A : Around) (s : Shared) : SeqAt.EqAt A s (.type a) (.type b) (decide (a = b)) := by
  intro prog w E Q q
  by_cases e : a = b
  · subst e
    rw [decide_eq_true rfl] at q
    unfold eqBool
    refine wpAny_holding ?_
    rw [if_pos (by simp)]
    exact wpAny_bind (wpAny_rule (wpAny_pure q))
  · rw [decide_eq_false e] at q
    have hb' : (Value.type a == Value.type b) = false := by rw [ty_beq]; exact decide_eq_false e
    unfold eqBool
    refine wpAny_holding ?_
    rw [if_neg (by rw [hb']; decide)]
    refine wpAny_bind (wpAny_mono (TypeEq.eq_type_other (fun s' => ha.is s') (fun s' => hb.is s') hb' (Q := fun v s' => v = .bool false ∧ Q false s') ⟨rfl, q⟩) (fun v s' hv => ?_) fun _ _ x => x)
    obtain ⟨rfl, q⟩ := hv
    exact wpAny_truthy_bool q
section
variable {X : Cx}
theorem op_eqTy : OpR X (compareOp .Eq) (fun x y H Q => ∃ a b, x = .ty a ∧ y = .ty b ∧ Kn a ∧ Kn b ∧ Q (.bl (decide (a = b))) H) := by
  intro pins s σ H x y v u Q I rx ry h
  obtain ⟨a, b, rfl, rfl, ka, kb, q⟩ := h
  cases rx
  cases ry
  by_cases e : a = b
  · subst e
    rw [decide_eq_true rfl] at q
    exact TypeEq.eq_type_same (fun s' => ka.is s') ⟨.bl true, H, I, rfl, q⟩
  · rw [decide_eq_false e] at q
    exact TypeEq.eq_type_other (fun s' => ka.is s') (fun s' => kb.is s') (by rw [ty_beq]; exact decide_eq_false e) ⟨.bl false, H, I, rfl, q⟩
theorem op_neTy : OpR X (compareOp .NotEq) (fun x y H Q => False) := fun _ _ _ _ _ _ _ _ _ _ _ _ h => h.elim
theorem vals_tys : ∀ {bs : List String} {us : List Value}, Vals (bs.map V.ty) us → us = bs.map Value.type
  | [], _, .nil => rfl
  | b :: bs, _, .cons r t => by
    cases r
    rw [vals_tys t]; rfl
theorem op_inTy : OpR X (compareOp .In) (fun x y H Q => ∃ (a : String) (p : Addr) (bs : List String), x = .ty a ∧ y = .ref p ∧ SqT X.K H p (bs.map V.ty) ∧ Kn a ∧ (∀ b ∈ bs, Kn b) ∧ Q (.bl (bs.contains a)) H) := by
  intro pins s σ H x y v u Q I rx ry h
  obtain ⟨a, p, bs, rfl, rfl, hq, ka, kb, q⟩ := h
  cases rx
  cases ry
  obtain ⟨its, r, pl, hz⟩ := I.tuple hq
  have e := vals_tys r
  subst e
  refine SeqAt.in_tupleAt (fun y => match y with | .type n => decide (n = a) | _ => false) pl (fun y hy => ?_) ⟨.bl _, H, I, rfl, ?_⟩
  · have hy' : y ∈ bs.map Value.type := by simpa using hy
    obtain ⟨b, hb, rfl⟩ := List.mem_map.mp hy'
    exact eqAt_ty (kb b hb) ka _ _
  · have e2 : ((bs.map Value.type).toArray.any fun y => match y with | .type n => decide (n = a) | _ => false) = bs.contains a := by
      rw [List.any_toArray, List.any_map]
      rw [List.contains_eq_any_beq]
      congr 1
      funext n
      show decide (n = a) = (a == n)
      by_cases h : n = a
      · simp [h]
      · rw [decide_eq_false h]
        exact (beq_eq_false_iff_ne.mpr (Ne.symm h)).symm
    rw [e2]
    exact q
end
/-- walked as this or as that -/
def iOr (w1 w2 : TI) : TI := fun σ H R => w1 σ H R ∨ w2 σ H R
theorem pi_or {X : Cx} {tg it : Expr} {w1 w2 : TI} (h1 : PI X tg it w1) (h2 : PI X tg it w2) : PI X tg it (iOr w1 w2) :=
  ⟨fun pins s σ H R I h => h.elim (fun h => h1.run pins s σ H R I h) fun h => h2.run pins s σ H R I h⟩
end L2

-- part: G1
namespace Toy
open PySem L2
/-! ### letters and clauses -/
def absI (i : Int) : Int := if i < 0 then -i else i
theorem absI_nat (i : Int) : absI i = (i.natAbs : Int) := by unfold absI; split <;> omega
/-- the clause of a row: rising by truths, the same letters -/
structure IsCl (row c : List Int) : Prop where
  inc : c.Pairwise fun a b => a.natAbs < b.natAbs
  mem : ∀ x, x ∈ c ↔ x ∈ row
structure RowOk (t : Int) (row : List Int) : Prop where
  low : ∀ x ∈ row, 1 ≤ x.natAbs
  top : ∀ x ∈ row, (x.natAbs : Int) ≤ t
  one : ∀ x ∈ row, -x ∉ row
theorem inc_ext : ∀ {c d : List Int}, c.Pairwise (fun a b => a.natAbs < b.natAbs) → d.Pairwise (fun a b => a.natAbs < b.natAbs) → (∀ x, x ∈ c ↔ x ∈ d) → c = d
  | [], [], _, _, _ => rfl
  | [], y :: d, _, _, h => absurd ((h y).mpr List.mem_cons_self) (by simp)
  | x :: c, [], _, _, h => absurd ((h x).mp List.mem_cons_self) (by simp)
  | x :: c, y :: d, hc, hd, h => by
    have c1 := List.pairwise_cons.mp hc
    have d1 := List.pairwise_cons.mp hd
    have e : x = y := by
      rcases List.mem_cons.mp ((h x).mp List.mem_cons_self) with e | hx
      · exact e
      · rcases List.mem_cons.mp ((h y).mpr List.mem_cons_self) with e | hy
        · exact e.symm
        · have a1 := d1.1 x hx
          have a2 := c1.1 y hy
          omega
    subst e
    have nx : x ∉ c := fun z => by have := c1.1 x z; omega
    have ny : x ∉ d := fun z => by have := d1.1 x z; omega
    rw [inc_ext c1.2 d1.2 fun z => ⟨fun hz => (List.mem_cons.mp ((h z).mp (List.mem_cons_of_mem _ hz))).resolve_left fun e => nx (e ▸ hz), fun hz => (List.mem_cons.mp ((h z).mpr (List.mem_cons_of_mem _ hz))).resolve_left fun e => ny (e ▸ hz)⟩]
theorem IsCl.ext {row row' c c' : List Int} (h : IsCl row c) (h' : IsCl row' c') (e : ∀ x, x ∈ row ↔ x ∈ row') : c = c' :=
  inc_ext h.inc h'.inc fun x => (h.mem x).trans ((e x).trans (h'.mem x).symm)
/-- ints unlike by their truths, in order -/
theorem strict_of {ks out : List Int} (p : out.Perm ks) (nd : ks.Nodup) (one : ∀ x ∈ ks, -x ∉ ks) (low : ∀ x ∈ ks, 1 ≤ x.natAbs) (h : out.Pairwise fun a b => absI a ≤ absI b) : out.Pairwise fun a b => a.natAbs < b.natAbs := by
  have nd' : out.Nodup := p.nodup_iff.mpr nd
  have hm : ∀ x ∈ out, x ∈ ks := fun x hx => p.mem_iff.mp hx
  have q := h.imp_of_mem (S := fun a b => a ≠ b → a.natAbs < b.natAbs) fun {a b} ha hb hab ne => by
    rw [absI_nat, absI_nat] at hab
    have h1 := one a (hm a ha)
    have h2 := low a (hm a ha)
    have h3 : b ≠ -a := fun e => h1 (by rw [← e]; exact hm b hb)
    omega
  exact (q.and nd').imp fun h => h.1 h.2
section
variable {X : Cx} {H : Hp} {Q : VK}
/-- sorted by the truths -/
theorem go_abs {K : PySem.W.Frag} {ks : List Int} (q : ∀ (out : List Int) (p : Addr), out.Perm ks → out.Pairwise (fun a b => absI a ≤ absI b) → H p = none → Q (.ref p) (upd H p (.lst (out.map V.int)))) :
    SortGo K (fun x H Q => ∃ i, x = .int i ∧ Q (.int (if i < 0 then -i else i)) H) (ks.map V.int) H Q := by
  refine ⟨fun kv H' => H' = H ∧ kv = (ks.take kv.length).map fun i => V.int (absI i), ⟨rfl, by simp⟩, ?_, ?_⟩
  · rintro i v kv H' hi hl ⟨rfl, hk⟩
    rw [List.getElem?_map] at hi
    cases e : ks[i]? with
    | none => rw [e] at hi; cases hi
    | some z =>
      rw [e] at hi
      cases hi
      refine ⟨z, rfl, rfl, ?_⟩
      rw [List.length_append, List.length_singleton, hl, List.take_add_one, e]
      rw [hl] at hk
      simp only [Option.toList_some, List.map_append, List.map_cons, List.map_nil]
      rw [← hk]
      rfl
  · rintro kv H' ⟨rfl, hk⟩ hl
    rw [List.length_map] at hl
    rw [hl, List.take_length] at hk
    refine .inl ⟨ks.map absI, by rw [hk, List.map_map]; rfl, fun zs hp ho p hn => ?_⟩
    have e1 : (ks.map absI).zip (ks.map V.int) = ks.map fun i => (absI i, V.int i) := by
      rw [List.zip_map]
      have : ks.zip ks = ks.map fun i => (i, i) := by
        clear q hk hl hp
        induction ks with
        | nil => rfl
        | cons a r ih => rw [List.zip_cons_cons, ih]; rfl
      rw [this, List.map_map]
      rfl
    rw [e1] at hp
    have at_ : ∀ z ∈ zs, ∃ i, z = (absI i, V.int i) := fun z hz => by
      obtain ⟨i, _, e⟩ := List.mem_map.mp (hp.mem_iff.mp hz)
      exact ⟨i, e.symm⟩
    -- the ints of zs
    let f : Int × V → Int := fun z => match z.2 with | .int i => i | _ => 0
    have ef : zs.map (fun z => (absI (f z), V.int (f z))) = zs := by
      have : ∀ l : List (Int × V), (∀ z ∈ l, ∃ i, z = (absI i, V.int i)) → l.map (fun z => (absI (f z), V.int (f z))) = l := by
        intro l
        induction l with
        | nil => intro _; rfl
        | cons a r ih =>
          intro h
          obtain ⟨i, rfl⟩ := h a List.mem_cons_self
          rw [List.map_cons, ih fun z hz => h z (List.mem_cons_of_mem _ hz)]
      exact this zs at_
    have pk : (zs.map f).Perm ks := by
      have q1 := hp.map f
      rw [List.map_map] at q1
      have e2 : ks.map (f ∘ fun i => (absI i, V.int i)) = ks := by
        have : (f ∘ fun i => (absI i, V.int i)) = id := by funext i; rfl
        rw [this, List.map_id]
      rw [e2] at q1
      exact q1
    have po : (zs.map f).Pairwise fun a b => absI a ≤ absI b := by
      rw [← ef] at ho
      rw [List.pairwise_map] at ho ⊢
      exact ho
    have q2 := q (zs.map f) p pk po hn
    have e3 : (zs.map f).map V.int = zs.map (·.2) := by
      conv => rhs; rw [← ef]
      rw [List.map_map, List.map_map]
      rfl
    rw [e3] at q2
    exact q2
end
/-- tuples of ints at places -/
def TupsAt (H : Hp) (bs : List Addr) (cs : List (List Int)) : Prop := Paired (fun (b : Addr) (c : List Int) => H b = some (.tup (c.map V.int))) bs cs
theorem TupsAt.same {H H' : Hp} (e : Same H H') : ∀ {bs : List Addr} {cs : List (List Int)}, TupsAt H bs cs → TupsAt H' bs cs
  | _, _, .nil => .nil
  | _, _, .cons h t => .cons (e _ _ h) (TupsAt.same e t)
theorem TupsAt.len {H : Hp} : ∀ {bs : List Addr} {cs : List (List Int)}, TupsAt H bs cs → bs.length = cs.length
  | _, _, .nil => rfl
  | _, _, .cons _ t => by rw [List.length_cons, List.length_cons, TupsAt.len t]
theorem TupsAt.get {H : Hp} : ∀ {bs : List Addr} {cs : List (List Int)} {i : Nat} {b : Addr}, TupsAt H bs cs → bs[i]? = some b → ∃ c, cs[i]? = some c ∧ H b = some (.tup (c.map V.int))
  | _, _, _, _, .nil, h => by simp at h
  | _, _, 0, _, .cons h t, e => by cases e; exact ⟨_, rfl, h⟩
  | _, _, i + 1, _, .cons h t, e => TupsAt.get (i := i) t e
theorem TupsAt.zip {H : Hp} : ∀ {bs : List Addr} {cs : List (List Int)}, TupsAt H bs cs → ∀ p ∈ bs.zip cs, H p.1 = some (.tup (p.2.map V.int))
  | _, _, .nil, p, h => by simp at h
  | _, _, .cons h t, p, hp => by
    rw [List.zip_cons_cons] at hp
    rcases List.mem_cons.mp hp with rfl | hp
    · exact h
    · exact TupsAt.zip t p hp
theorem TupsAt.of_zip {H : Hp} : ∀ {zs : List (Addr × List Int)}, (∀ p ∈ zs, H p.1 = some (.tup (p.2.map V.int))) → TupsAt H (zs.map (·.1)) (zs.map (·.2))
  | [], _ => .nil
  | z :: zs, h => .cons (h z List.mem_cons_self) (TupsAt.of_zip fun p hp => h p (List.mem_cons_of_mem _ hp))
/-- shorter ones first, then rising -/
def ltC (a b : List Int) : Bool := ltKT ((a.length : Int), a) ((b.length : Int), b)
/-- what the key makes of a clause -/
def relLen (x : V) (H : Hp) (Q : VK) : Prop := ∃ c l, x = .ref c ∧ H c = some (.tup l) ∧ ∀ t, H t = none → Q (.ref t) (upd H t (.tup [.int (l.length : Int), .ref c]))
theorem go_cls {K : PySem.W.Frag} {rel : V → Hp → VK → Prop} {H : Hp} {Q : VK} {bs : List Addr} {cs : List (List Int)} (G : Hp → Prop) (g0 : G H) (gs : ∀ H1 H2, G H1 → Same H1 H2 → G H2)
    (hrel : ∀ x H Q, G H → relLen x H Q → rel x H Q) (T : TupsAt H bs cs)
    (q : ∀ (zs : List (Addr × List Int)) (H' : Hp) (p : Addr), zs.Perm (bs.zip cs) → zs.Pairwise (fun a b => ltC b.2 a.2 = false) → Same H H' → G H' → TupsAt H' (zs.map (·.1)) (zs.map (·.2)) → H' p = none → Q (.ref p) (upd H' p (.lst (zs.map fun z => V.ref z.1)))) :
    SortGo K rel (bs.map V.ref) H Q := by
  have hlen := T.len
  refine ⟨fun kv H' => Same H H' ∧ G H' ∧ ∃ ts : List Addr, kv = ts.map V.ref ∧ ∀ (i : Nat) (t b : Addr) (c : List Int), ts[i]? = some t → bs[i]? = some b → cs[i]? = some c → H' t = some (.tup [.int (c.length : Int), .ref b]), ⟨Same.refl H, g0, [], rfl, fun i t b c h => by simp at h⟩, ?_, ?_⟩
  · rintro i v kv H' hi hl ⟨sm, g, ts, rfl, hts⟩
    rw [List.getElem?_map] at hi
    cases e : bs[i]? with
    | none => rw [e] at hi; cases hi
    | some b =>
      rw [e] at hi
      cases hi
      obtain ⟨c, hc, hb⟩ := T.get e
      refine hrel _ _ _ g ⟨b, _, rfl, sm _ _ hb, fun t ht => ?_⟩
      have s2 : Same H' (upd H' t (.tup [.int ((c.map V.int).length : Int), .ref b])) := Same.new ht
      refine ⟨Same.trans sm s2, gs _ _ g s2, ts ++ [t], by rw [List.map_append]; rfl, fun j t' b' c' h1 h2 h3 => ?_⟩
      rw [List.length_map] at hl
      by_cases hj : j < ts.length
      · rw [List.getElem?_append_left hj] at h1
        exact s2 _ _ (hts j t' b' c' h1 h2 h3)
      · have hj' : j = ts.length := by
          have := (List.getElem?_eq_some_iff.mp h1).1
          rw [List.length_append, List.length_singleton] at this
          omega
        subst hj'
        rw [List.getElem?_append_right (Nat.le_refl _), Nat.sub_self] at h1
        cases h1
        rw [hl, e] at h2
        cases h2
        rw [hl, hc] at h3
        cases h3
        rw [upd_same, List.length_map]
  · rintro kv H' ⟨sm, g, ts, rfl, hts⟩ hl
    rw [List.length_map, List.length_map] at hl
    have T' := TupsAt.same sm T
    refine .inr ⟨cs.map fun c => ((c.length : Int), c), ?_, fun zs hp ho p hn => ?_⟩
    · -- the keys stand
      have : ∀ (ts bs : List Addr) (cs : List (List Int)), ts.length = bs.length → bs.length = cs.length → (∀ (i : Nat) (t b : Addr) (c : List Int), ts[i]? = some t → bs[i]? = some b → cs[i]? = some c → H' t = some (.tup [.int (c.length : Int), .ref b])) → TupsAt H' bs cs → Paired (KeyT K H') (ts.map V.ref) (cs.map fun c => ((c.length : Int), c)) := by
        intro ts
        induction ts with
        | nil =>
          intro bs cs h1 h2 _ _
          cases bs with
          | nil =>
            cases cs with
            | nil => exact .nil
            | cons c cs => simp at h2
          | cons b bs => simp at h1
        | cons t ts ih =>
          intro bs cs h1 h2 h3 h4
          cases h4 with
          | nil => simp at h1
          | cons hb ht =>
            refine .cons ⟨t, _, rfl, SqT.of (h3 0 _ _ _ rfl rfl rfl), SqT.of hb⟩ (ih _ _ (by simpa using h1) (by simpa using h2) (fun i t' b' c' a1 a2 a3 => h3 (i + 1) t' b' c' a1 a2 a3) ht)
      exact this ts bs cs hl hlen hts T'
    · have ez : (cs.map fun c => ((c.length : Int), c)).zip (bs.map V.ref) = (bs.zip cs).map fun z => (((z.2.length : Int), z.2), V.ref z.1) := by
        have : ∀ (bs : List Addr) (cs : List (List Int)), (cs.map fun c => ((c.length : Int), c)).zip (bs.map V.ref) = (bs.zip cs).map fun z => (((z.2.length : Int), z.2), V.ref z.1) := by
          intro bs
          induction bs with
          | nil => intro cs; cases cs <;> rfl
          | cons b bs ih =>
            intro cs
            cases cs with
            | nil => rfl
            | cons c cs =>
              rw [List.map_cons, List.map_cons, List.zip_cons_cons, List.zip_cons_cons, List.map_cons, ih]
        exact this bs cs
      rw [ez] at hp
      let f : (Int × List Int) × V → Addr × List Int := fun z => (match z.2 with | .ref a => a | _ => 0, z.1.2)
      have ef : zs.map (fun z => ((((f z).2.length : Int), (f z).2), V.ref (f z).1)) = zs := by
        have : ∀ l : List ((Int × List Int) × V), (∀ z ∈ l, ∃ y : Addr × List Int, z = (((y.2.length : Int), y.2), V.ref y.1)) → l.map (fun z => ((((f z).2.length : Int), (f z).2), V.ref (f z).1)) = l := by
          intro l
          induction l with
          | nil => intro _; rfl
          | cons a r ih =>
            intro h
            obtain ⟨y, rfl⟩ := h a List.mem_cons_self
            rw [List.map_cons, ih fun z hz => h z (List.mem_cons_of_mem _ hz)]
        exact this zs fun z hz => by
          obtain ⟨y, _, e⟩ := List.mem_map.mp (hp.mem_iff.mp hz)
          exact ⟨y, e.symm⟩
      have pk : (zs.map f).Perm (bs.zip cs) := by
        have q1 := hp.map f
        rw [List.map_map] at q1
        have e2 : (bs.zip cs).map (f ∘ fun z => (((z.2.length : Int), z.2), V.ref z.1)) = bs.zip cs := by
          have : (f ∘ fun z : Addr × List Int => (((z.2.length : Int), z.2), V.ref z.1)) = id := by funext z; rfl
          rw [this, List.map_id]
        rw [e2] at q1
        exact q1
      have po : (zs.map f).Pairwise fun a b => ltC b.2 a.2 = false := by
        rw [← ef] at ho
        rw [List.pairwise_map] at ho ⊢
        exact ho
      have tz : TupsAt H' ((zs.map f).map (·.1)) ((zs.map f).map (·.2)) := TupsAt.of_zip fun y hy => TupsAt.zip T' y (pk.mem_iff.mp hy)
      have q2 := q (zs.map f) H' p pk po sm g tz hn
      have e3 : (zs.map f).map (fun z => V.ref z.1) = zs.map (·.2) := by
        conv => rhs; rw [← ef]
        rw [List.map_map, List.map_map]
        rfl
      rw [e3] at q2
      exact q2
end Toy
namespace Toy
open PySem L2
/-! ### dicts by their keys -/
section
variable {κ α : Type} [DecidableEq κ] [DecidableEq α]
theorem valV_none {kvs : List (κ × V)} {k : κ} : valV kvs k = none ↔ k ∉ kvs.map (·.1) := by
  constructor
  · exact valV_not
  · intro h
    cases e : valV kvs k with
    | none => rfl
    | some v => exact absurd (valV_in e) h
/-- once more, at the end, if it isn't there -/
def addU (ks : List α) (n : α) : List α := if n ∈ ks then ks else ks ++ [n]
theorem keys_put {f : α → κ} (inj : ∀ a b, f a = f b → a = b) {kvs : List (κ × V)} {ks : List α} (h : kvs.map (·.1) = ks.map f) (n : α) (v : V) : (putK kvs (f n) v).map (·.1) = (addU ks n).map f := by
  unfold addU
  by_cases hn : n ∈ ks
  · rw [if_pos hn]
    have hm : f n ∈ kvs.map (·.1) := by rw [h]; exact List.mem_map.mpr ⟨n, hn, rfl⟩
    have ha : (kvs.any fun kv => decide (kv.1 = f n)) = true := by
      rw [List.any_eq_true]
      obtain ⟨p, hp, e⟩ := List.mem_map.mp hm
      exact ⟨p, hp, decide_eq_true e⟩
    unfold putK
    rw [if_pos ha, ← h, List.map_map]
    refine List.map_congr_left fun p _ => ?_
    show (if p.1 = f n then (p.1, v) else p).1 = p.1
    split <;> rfl
  · rw [if_neg hn]
    have hv : valV kvs (f n) = none := valV_none.mpr fun z => by
      rw [h] at z
      obtain ⟨m, hm, e⟩ := List.mem_map.mp z
      rw [inj _ _ e] at hm
      exact hn hm
    rw [putK_new v hv, List.map_append, h, List.map_append]
    rfl
theorem nd_add {ks : List α} (h : ks.Nodup) (n : α) : (addU ks n).Nodup := by
  unfold addU
  split
  · exact h
  · rename_i hn
    rw [List.nodup_append]
    exact ⟨h, by simp, fun a ha b hb => by rw [List.mem_singleton.mp hb]; exact fun e => hn (e ▸ ha)⟩
theorem mem_add {ks : List α} (n z : α) : z ∈ addU ks n ↔ z ∈ ks ∨ z = n := by
  unfold addU
  split
  · rename_i hn
    exact ⟨.inl, fun h => h.elim id fun e => e ▸ hn⟩
  · simp
theorem len_add {ks : List α} (n : α) : (addU ks n).length ≤ ks.length + 1 := by
  unfold addU
  split
  · omega
  · simp
theorem val_keys {f : α → κ} (inj : ∀ a b, f a = f b → a = b) {kvs : List (κ × V)} {ks : List α} (h : kvs.map (·.1) = ks.map f) (n : α) : (valV kvs (f n)).isSome = decide (n ∈ ks) := by
  by_cases hn : n ∈ ks
  · rw [decide_eq_true hn]
    cases e : valV kvs (f n) with
    | some v => rfl
    | none => exact absurd (by rw [h]; exact List.mem_map.mpr ⟨n, hn, rfl⟩) (valV_none.mp e)
  · rw [decide_eq_false hn, valV_none.mpr fun z => by
      rw [h] at z
      obtain ⟨m, hm, e⟩ := List.mem_map.mp z
      rw [inj _ _ e] at hm
      exact hn hm]
    rfl
end
theorem inl_inj (a b : Int) (h : (Sum.inl a : Key) = Sum.inl b) : a = b := Sum.inl.inj h
/-- a tuple of ints as a key -/
def tkey (c : List Int) : List Key := c.map Sum.inl
theorem tkey_inj (a b : List Int) (h : tkey a = tkey b) : a = b := (List.map_inj_right (fun x y h => Sum.inl.inj h)).mp h
theorem tkey_kV (c : List Int) : (tkey c).map kV = c.map V.int := by
  unfold tkey
  rw [List.map_map]
  rfl
end Toy
namespace Toy
open PySem L2
theorem e_sorted {r : V → Hp → VK → Prop} {t : TA} {σ : St} {H : Hp} {Q : VK} : tSorted r t σ H Q = t σ H fun vs H1 => ∃ x, vs = [x] ∧ r x H1 Q := rfl
end Toy
namespace Toy
open PySem L2
/-! ### the clauses of a problem -/
theorem ltC_irrefl (a : List Int) : ltC a a = false := by
  unfold ltC ltKT
  rw [if_pos rfl]
  exact lex_irrefl a
theorem ltC_total {a b : List Int} (h1 : ltC a b = false) (h2 : ltC b a = false) : a = b := by
  unfold ltC ltKT at h1 h2
  by_cases e : (a.length : Int) = (b.length : Int)
  · have h1 : HT.lexLt a b = false := by rw [if_pos e] at h1; exact h1
    have h2 : HT.lexLt b a = false := by rw [if_pos e.symm] at h2; exact h2
    exact lex_total a b h1 h2
  · rw [if_neg e] at h1
    rw [if_neg (Ne.symm e)] at h2
    have d1 := of_decide_eq_false h1
    have d2 := of_decide_eq_false h2
    omega
theorem ltC_asym {a b : List Int} (h : ltC a b = true) : ltC b a = false := swo_KT.asym _ _ h
theorem ltC_trans {a b c : List Int} (h1 : ltC a b = true) (h2 : ltC b c = true) : ltC a c = true := swo_KT.ltle h1 (swo_KT.asym _ _ h2)
/-- shorter ones first, rising: the unlike clauses of the rows -/
structure IsDue (rows cs : List (List Int)) : Prop where
  inc : cs.Pairwise fun a b => ltC a b = true
  mem : ∀ c, c ∈ cs ↔ ∃ row ∈ rows, IsCl row c
theorem ltC_ext : ∀ {c d : List (List Int)}, c.Pairwise (fun a b => ltC a b = true) → d.Pairwise (fun a b => ltC a b = true) → (∀ x, x ∈ c ↔ x ∈ d) → c = d
  | [], [], _, _, _ => rfl
  | [], y :: d, _, _, h => absurd ((h y).mpr List.mem_cons_self) (by simp)
  | x :: c, [], _, _, h => absurd ((h x).mp List.mem_cons_self) (by simp)
  | x :: c, y :: d, hc, hd, h => by
    have c1 := List.pairwise_cons.mp hc
    have d1 := List.pairwise_cons.mp hd
    have irr : ∀ z : List Int, ltC z z = true → False := fun z q => by rw [ltC_irrefl] at q; cases q
    have e : x = y := by
      rcases List.mem_cons.mp ((h x).mp List.mem_cons_self) with e | hx
      · exact e
      · rcases List.mem_cons.mp ((h y).mpr List.mem_cons_self) with e | hy
        · exact e.symm
        · exact (irr _ (ltC_trans (d1.1 x hx) (c1.1 y hy))).elim
    subst e
    have nx : x ∉ c := fun z => irr _ (c1.1 x z)
    have ny : x ∉ d := fun z => irr _ (d1.1 x z)
    rw [ltC_ext c1.2 d1.2 fun z => ⟨fun hz => (List.mem_cons.mp ((h z).mp (List.mem_cons_of_mem _ hz))).resolve_left fun e => nx (e ▸ hz), fun hz => (List.mem_cons.mp ((h z).mpr (List.mem_cons_of_mem _ hz))).resolve_left fun e => ny (e ▸ hz)⟩]
theorem IsDue.ext {r r' c c' : List (List Int)} (h : IsDue r c) (h' : IsDue r' c') (e : ∀ x, (∃ row ∈ r, IsCl row x) ↔ ∃ row ∈ r', IsCl row x) : c = c' :=
  ltC_ext h.inc h'.inc fun x => (h.mem x).trans ((e x).trans (h'.mem x).symm)
theorem inc_of {cs out : List (List Int)} (p : out.Perm cs) (nd : cs.Nodup) (h : out.Pairwise fun a b => ltC b a = false) : out.Pairwise fun a b => ltC a b = true := by
  have nd' : out.Nodup := p.nodup_iff.mpr nd
  refine (h.and nd').imp fun {a b} h => ?_
  cases e : ltC a b with
  | true => rfl
  | false => exact absurd (ltC_total e h.1) h.2
/-- the tuples that are the keys of a dict -/
theorem tups_of_keys {H : Hp} : ∀ {kvs : List (List Key × V)} {bs : List Addr} {cs : List (List Int)}, IsKeys H kvs bs → kvs.map (·.1) = cs.map tkey → TupsAt H bs cs
  | _, _, [], .nil, _ => .nil
  | _, _, _ :: _, .nil, h => by cases h
  | _, _, [], .cons _ _, h => by cases h
  | _, _, c :: cs, .cons hb t, h => by
    rw [List.map_cons, List.map_cons] at h
    have h1 := (List.cons.inj h).1
    have h2 := (List.cons.inj h).2
    refine .cons ?_ (tups_of_keys t h2)
    rw [h1, tkey_kV] at hb
    exact hb
end Toy
namespace Toy
open PySem L2
/-! ### clauses as data -/
def dTup (c : List Int) : PyData := .tuple (c.map PyData.int)
def dCls (cs : List (List Int)) : PyData := .tuple (cs.map dTup)
theorem dpAll_cls {K : PySem.W.Frag} {H : Hp} : ∀ {bs : List Addr} {cs : List (List Int)}, TupsAt H bs cs → DpAll K H (bs.map V.ref) (cs.map dTup)
  | _, _, .nil => .nil
  | _, _, .cons h t => .cons (.tup (SqT.of h) (dpAll_ints _)) (dpAll_cls t)
theorem can_cls : ∀ cs : List (List Int), PyData.canLayAll0 (cs.map dTup) = true
  | [] => by simp [PyData.canLayAll0]
  | c :: cs => by simp [PyData.canLayAll0, dTup, PyData.canLay0, can_intsD, can_cls cs]
theorem dep_cls : ∀ cs : List (List Int), PyData.depthAll (cs.map dTup) ≤ 2
  | [] => by simp [PyData.depthAll]
  | c :: cs => by
    have h1 := dep_cls cs
    have h2 := dep_intsD c
    simp only [List.map_cons, PyData.depthAll, dTup, PyData.depth]
    omega
theorem shaped_cls (cs : List (List Int)) : SeqAt.shaped (dCls cs) = true := by
  have h := dep_cls cs
  unfold SeqAt.shaped dCls
  rw [Bool.and_eq_true]
  refine ⟨by simp [PyData.canLay0, can_cls], decide_eq_true ?_⟩
  simp only [PyData.depth]
  omega
theorem eqvAll_cls : ∀ a b : List (List Int), PyData.eqvAll (a.map dTup) (b.map dTup) = decide (a = b)
  | [], [] => by simp [PyData.eqvAll]
  | [], y :: b => by simp [PyData.eqvAll]
  | x :: a, [] => by simp [PyData.eqvAll]
  | x :: a, y :: b => by
    simp only [List.map_cons, PyData.eqvAll, dTup, PyData.eqv, eqvAll_ints]
    rw [eqvAll_cls a b]
    by_cases h1 : x = y <;> by_cases h2 : a = b <;> simp [h1, h2]
theorem eqv_cls (a b : List (List Int)) : PyData.eqv (dCls a) (dCls b) = decide (a = b) := by
  unfold dCls
  simp only [PyData.eqv]
  exact eqvAll_cls a b
end Toy
namespace Toy
open PySem L2
theorem e_dsetd {td ty tx : TE} {σ : St} {H : Hp} {Q : VK} : tDSetd td ty tx σ H Q = td σ H fun x H1 => ∃ a, x = .ref a ∧ IsD H1 a ∧ ty σ H1 fun y H2 => tx σ H2 fun z H3 => ∃ (kvs : List (Key × V)) (k : Key), H3 a = some (.dK kvs) ∧ y = kV k ∧ kvs.length < sizeLine ∧
  (∀ v, valV kvs k = some v → Q v H3) ∧ (valV kvs k = none → Q z (upd H3 a (.dK (putK kvs k z)))) := rfl
/-- the draw of one of two -/
theorem at_two {a b : V} {r : Int} (h0 : 0 ≤ r) (h1 : r < 2) : (r = 0 ∧ atI [a, b] r = some a) ∨ (r = 1 ∧ atI [a, b] r = some b) := by
  have : r = 0 ∨ r = 1 := by omega
  rcases this with rfl | rfl
  · exact .inl ⟨rfl, rfl⟩
  · exact .inr ⟨rfl, rfl⟩
end Toy

local macro_rules | `(tactic| walk_at "rd") => `(tactic| try simp only [Toy.e_seq, Toy.e_asg, Toy.e_asgS, Toy.e_ret, Toy.e_ifS, Toy.e_c, Toy.e_op, Toy.e_test, Toy.e_rI0, Toy.e_rI, Toy.e_var0, Toy.e_varS, Toy.e_bl, Toy.e_nil, Toy.e_cons, Toy.e_call, Toy.e_cb, Toy.e_next, Toy.e_bl2, Toy.e_cxK, Toy.e_ii, Toy.e_lst, Toy.e_tup, Toy.e_and, Toy.e_chain, Toy.e_tif, Toy.e_not, Toy.e_tb, Toy.e_drop, Toy.e_i1, Toy.e_or, Toy.e_andT, Toy.e_din, Toy.e_dnotin, Toy.e_un, Toy.e_rU, Toy.e_dput, Toy.e_x1, Toy.e_notV, Toy.e_orV, Toy.e_sorted, Toy.e_fld, Toy.e_gName, Toy.e_bm, Toy.e_dsetd, Toy.e_par, Toy.e_vw, Toy.e_dnewK, List.set_cons_zero, List.set_cons_succ, List.append_nil, List.nil_append, List.cons_append])
-- part: IX
namespace Toy
open PySem L2
def topS (i : Nat) : Stmt := PySem.Challenge.pw_turnless_k33_whole_what_clauses_say.main.body.getD i (.Pass ⟨0, 0, 0, 0⟩)
abbrev s_is_number : Stmt := topS 5
abbrev s_is_list : Stmt := topS 6
abbrev s_is_letter : Stmt := topS 7
abbrev s_clause_of : Stmt := topS 8
abbrev s_is_turn : Stmt := topS 11
abbrev s_still : Stmt := topS 12
abbrev s__is_many : Stmt := topS 13
abbrev s_refuse_no_turn : Stmt := topS 14
abbrev s_table_of : Stmt := topS 15
abbrev s_led_back : Stmt := topS 16
abbrev s_lesser : Stmt := topS 18
abbrev s_is_order : Stmt := topS 19
abbrev s_lesser_clauses : Stmt := topS 20
abbrev s__letters_of : Stmt := topS 21
abbrev s__law_mixed : Stmt := topS 23
abbrev s__law_next : Stmt := topS 24
abbrev s__law_turn : Stmt := topS 25
abbrev s__law_goes : Stmt := topS 26
abbrev s__law_led_answer : Stmt := topS 27
abbrev s__law_line : Stmt := topS 28
abbrev s__law_plain : Stmt := topS 29
abbrev s__law_below : Stmt := topS 30
abbrev s__law_holds : Stmt := topS 31
abbrev s__law_bits : Stmt := topS 32
abbrev s_law : Stmt := topS 33
/-- a def of the top -/
structure Df (K : PySem.W.Frag) (mg : Str → Option Value) (x : Str) (st : Stmt) (ps : List Str) (f : Addr) (fd : FuncData) : Prop where
  F : Fun K x x st f fd
  g : mg x = some (.ref f)
  b : Binds K fd ps []
/-- the built-in names -/
structure Bl (mg : Str → Option Value) : Prop where
  max : mg "max" = none
  min : mg "min" = none
  len : mg "len" = none
  range : mg "range" = none
  type : mg "type" = none
  int : mg "int" = none
  list : mg "list" = none
  tuple : mg "tuple" = none
  dict : mg "dict" = none
  bool : mg "bool" = none
  abs : mg "abs" = none
  sorted : mg "sorted" = none
  enumerate : mg "enumerate" = none
  isinstance : mg "isinstance" = none
  repr : mg "repr" = none
  str : mg "str" = none
  all : mg "all" = none
  any : mg "any" = none
  zip : mg "zip" = none
  reversed : mg "reversed" = none
  sum : mg "sum" = none
  set : mg "set" = none
  ValueError : mg "ValueError" = none
end Toy

-- part: P1q
namespace Toy
open PySem L2
section
variable {P : Program} {w : World} {K : PySem.W.Frag} {mg : Str → Option Value} {base : Heap}
abbrev sIsNum : Stmt := s_is_number
theorem scIsNum : FnScope ["thing"] ["thing"] (defScope sIsNum) := ⟨rfl, rfl, rfl, by decide +kernel, rfl, by decide +kernel, by decide +kernel⟩
def spIsNum (K : PySem.W.Frag) : Sp := fun vs H Q _ => ∃ x T, vs = [x] ∧ TyB K H x T ∧ Q (.bl (decide (T = "int"))) H
theorem ok_isNum {f : Addr} {fd : FuncData} (F : Fun K "is_number" "is_number" sIsNum f fd) (B : Bl mg) : FnOk P w K mg base CX0 1 f fd ["thing"] (spIsNum K) := by
  refine F.ok scIsNum (fun vs H Q E h => ?_) (fun cdv A outer s H vs Q E hr h => ?_)
  · obtain ⟨x, T, rfl, _⟩ := h
    rfl
  · obtain ⟨x, T, rfl, ty, q⟩ := h
    refine ⟨_, pss_one (ps_ret (pe_cmpR op_eqTy (pe_callTy call_type1 (by rfl) B.type (by decide +kernel) (pa_cons (pv 0) pa_nil)) (pe_bltn (v := .ty "int") (by rfl) B.int (by decide +kernel) rfl) (nomark _))), ?_⟩
    show tRet _ _ [some x] H
    walk_at "rd"
    exact ⟨x, T, rfl, ty, _, _, rfl, rfl, Kn.ty ty, .inl rfl, q⟩
abbrev sIsLet : Stmt := s_is_letter
theorem scIsLet : FnScope ["thing", "many"] ["thing", "many"] (defScope sIsLet) := ⟨rfl, rfl, rfl, by decide +kernel, rfl, by decide +kernel, by decide +kernel⟩
/-- whether x is a letter of t truths -/
def letB (x : V) (t : Int) : Bool := match x with
  | .int i => decide (1 ≤ absI i) && decide (absI i ≤ t)
  | _ => false
def spIsLet (K : PySem.W.Frag) : Sp := fun vs H Q _ => ∃ x T t, vs = [x, .int t] ∧ TyB K H x T ∧ Q (.bl (letB x t)) H
theorem ok_isLet {f fN : Addr} {fd fdN : FuncData} (F : Fun K "is_letter" "is_letter" sIsLet f fd) (B : Bl mg) (N : Df K mg "is_number" sIsNum ["thing"] fN fdN) : FnOk P w K mg base CX0 2 f fd ["thing", "many"] (spIsLet K) := by
  have GN : FnOk P w K mg base CX0 1 fN fdN ["thing"] (spIsNum K) := ok_isNum N.F B
  refine F.ok scIsLet (fun vs H Q E h => ?_) (fun cdv A outer s H vs Q E hr h => ?_)
  · obtain ⟨x, T, t, rfl, _⟩ := h
    rfl
  · obtain ⟨x, T, t, rfl, ty, q⟩ := h
    refine ⟨_, pss_one (ps_ret (pe_and (pe_call GN hr rfl N.g N.F.kp N.b .nil pass0 (pa_cons (pv 0) pa_nil)) (pe_one (pe_chain op_le op_le pe_int (pe_callB call_abs (by rfl) B.abs (by decide +kernel) (pa_cons (pv 0) pa_nil)) (pv 1))))), ?_⟩
    show tRet _ _ [some x, some (.int t)] H
    walk_at "rd"
    refine ⟨x, T, rfl, ty, ?_⟩
    walk_at "rd"
    cases ty with
    | int i =>
      refine iteT ?_
      walk_at "rd"
      by_cases h1 : 1 ≤ absI i
      · have e : decide (1 ≤ if i < 0 then -i else i) = true := decide_eq_true h1
        rw [e]
        refine iteT ?_
        have q' := q
        unfold letB at q'
        simp only [h1, decide_true, Bool.true_and] at q'
        exact q'
      · have e : decide (1 ≤ if i < 0 then -i else i) = false := decide_eq_false h1
        rw [e]
        refine iteF ?_
        have q' := q
        unfold letB at q'
        simp only [h1, decide_false, Bool.false_and] at q'
        exact q'
    | _ => exact q
end
end Toy

-- part: L0q
namespace Toy
open PySem L2
abbrev sMixed : Stmt := s__law_mixed
theorem scMixed : FnScope ["cell", "k", "mix"] ["cell", "k"] (defScope sMixed) := ⟨rfl, rfl, rfl, by decide +kernel, rfl, by decide +kernel, by decide +kernel⟩
def spMixed : Sp := fun vs H Q _ => ∃ (c k : Int), vs = [.int c, .int k] ∧ 0 ≤ k ∧ k < 127 ∧ ∀ r : Int, 0 ≤ r → r < 2147483399 → Q (.int r) H
section
variable {P : Program} {w : World} {K : PySem.W.Frag} {mg : Str → Option Value} {base : Heap}
theorem ok_mixed {f : Addr} {fd : FuncData} (F : Fun K "_law_mixed" "_law_mixed" sMixed f fd) : FnOk P w K mg base CX0 1 f fd ["cell", "k"] spMixed := by
  refine F.ok scMixed (fun vs H Q E h => ?_) (fun cdv A outer s H vs Q E hr h => ?_)
  · obtain ⟨c, k, rfl, _⟩ := h
    rfl
  · obtain ⟨c, k, rfl, k0, k1, q⟩ := h
    refine ⟨_, pss_cons (ps_set (i := 2) scMixed.nd rfl (Or.inl rfl)
        (pe_op op_modN (pe_op op_pow (pe_op op_modN (pe_op op_mul (pe_op op_add (pe_op op_add (pe_op op_modN (pv 0) pe_int) (pe_op op_mul pe_int (pv 1))) pe_int) pe_int) pe_int) pe_int) pe_int))
      (pss_cons (ps_if (pt_cmpR op_lt (pv 0) (pe_op op_pow pe_int pe_int) (nomark _)) (pss_one (ps_ret (pv 2))) pss_nil)
      (pss_one (ps_ret (pe_op op_modN (pe_op op_add (pv 2) (pe_op op_modN (pe_op op_fdivW (pv 0) (pe_op op_pow pe_int pe_int)) (pe_op op_add pe_int (pe_op op_mul (pe_op op_add (pv 1) pe_int) pe_int)))) pe_int)))), ?_⟩
    show tSeq _ _ _ [some (.int c), some (.int k), none] H
    walk_at "rd"
    have m0 : ∀ a : Int, 0 ≤ a.fmod 2147483399 ∧ a.fmod 2147483399 < 2147483399 := fun a => by
      rw [Int.fmod_eq_emod_of_nonneg _ (by decide)]
      omega
    have m1 := m0 c
    have m2 := m0 ((c.fmod 2147483399 + 104729 * k + 11) * 48271)
    generalize c.fmod 2147483399 = x at *
    generalize ((x + 104729 * k + 11) * 48271).fmod 2147483399 = y at *
    have m3 := m0 (y ^ Int.toNat 5)
    refine ⟨by decide, .inl ⟨by decide, by decide⟩, .inl ⟨by omega, by omega⟩, by decide, ⟨by decide, by decide, by omega⟩, by decide, ⟨by decide, by decide, by decide⟩, ite2 (fun _ => q _ m3.1 m3.2) (fun _ => ?_)⟩
    have big : (1 : Int) + (k + 1) * 4014476939333036189094441199026045136645885247730 ≠ 0 := by omega
    refine ⟨⟨by decide, by decide, by decide⟩, wide_div (b := 60) (by decide) (by decide) (by decide) (by decide), .inl ⟨by omega, by omega⟩, big, by decide, q _ (m0 _).1 (m0 _).2⟩
abbrev sNext : Stmt := s__law_next
theorem scNext : FnScope ["draw", "size", "at", "many", "cell"] ["draw", "size"] (defScope sNext) := ⟨rfl, rfl, rfl, by decide +kernel, rfl, by decide +kernel, by decide +kernel⟩
def spNext (K : PySem.W.Frag) : Sp := fun vs H Q _ => ∃ (d : Addr) (z : Int) (sc : Addr) (ns : List Int), vs = [.ref d, .int z] ∧ 0 < z ∧ DrA K sc ns H d ∧ ∀ (r : Int) (H' : Hp), 0 ≤ r → r < z → Ex d H H' → DrA K sc ns H' d → Q (.int r) H'
theorem ok_next {f fM : Addr} {fd fdM : FuncData} (F : Fun K "_law_next" "_law_next" sNext f fd) (B : Bl mg) (M : Df K mg "_law_mixed" sMixed ["cell", "k"] fM fdM) : FnOk P w K mg base CX0 2 f fd ["draw", "size"] (spNext K) := by
  have GM : FnOk P w K mg base CX0 1 fM fdM ["cell", "k"] spMixed := ok_mixed M.F
  refine F.ok scNext (fun vs H Q E h => ?_) (fun cdv A outer s H vs Q E hr h => ?_)
  · obtain ⟨c, k, sc, ns, rfl, _⟩ := h
    rfl
  · obtain ⟨d, z, sc, ns, rfl, z0, ⟨n, D⟩, q⟩ := h
    have hu := hu_of hr
    refine ⟨_, pss_cons (ps_set (i := 2) scNext.nd rfl (Or.inl rfl) (pe_ix ix_list (pv 0) pe_int (fun _ _ => rfl)))
      (pss_cons (ps_asg (pe_op op_add (pv 2) pe_int) (pg_sub (pv 0) pe_int set_list))
      (pss_cons (ps_set (i := 3) scNext.nd rfl (Or.inl rfl) (pe_callB (call_max2 rfl) (by rfl) B.max (by decide +kernel) (pa_cons pe_int (pa_cons (pe_callB call_len_seq (by rfl) B.len PySem.boot_len (pa_cons (pe_ix ix_list (pv 0) pe_int (fun _ _ => rfl)) pa_nil)) pa_nil))))
      (pss_cons (ps_set (i := 4) scNext.nd rfl (Or.inl rfl) pe_int)
      (pss_cons (ps_if (pt_cmpR (op_neD hr.units) (pe_ix ix_list (pv 0) pe_int (fun _ _ => rfl)) (pe_lst pa_nil) (nomark _)) (pss_one (ps_set (i := 4) scNext.nd rfl (Or.inl rfl) (pe_ix ix_list (pe_ix ix_list (pv 0) pe_int (fun _ _ => rfl)) (pe_op op_modN (pv 2) (pv 3)) (fun _ _ => rfl)))) pss_nil)
      (pss_one (ps_ret (pe_op op_modN (pe_op op_fdivN (pe_call GM hr rfl M.g M.F.kp M.b .nil pass0 (pa_cons (pv 4) (pa_cons (pe_op op_modN (pe_op op_fdivN (pv 2) (pv 3)) pe_int) pa_nil))) pe_int) (pv 1)))))))), ?_⟩
    show tSeq _ _ _ [some (.ref d), some (.int z), none, none, none] H
    walk_at "rd"
    refine p_ix (SqL.of D.dr) (i := 1) (v := .int n) rfl ?_
    walk_at "rd"
    refine p_set D.dr (j := 1) rfl ?_
    have D1 : Dr K (upd H d (.lst [.ref sc, .int (n + 1)])) d sc ns (n + 1) := ⟨upd_same, Dr.sqx D Ex.at, D.len, by have := D.pos; omega⟩
    refine p_ix (SqL.of D1.dr) (i := 0) (v := .ref sc) rfl ?_
    refine ⟨_, _, rfl, .inl D1.sq, ?_⟩
    walk_at "rd"
    refine p_ix (SqL.of D1.dr) (i := 0) (v := .ref sc) rfl ?_
    walk_at "rd"
    refine ⟨Nat.zero_le _, fun p hp => ?_⟩
    refine p_neD (.lst (Same.seq (Same.new hp) D1.sq) (dp_ints ns)) (.lst (SqL.of upd_same) .nil) (shaped_lints ns) (by decide) ?_
    walk_at "rd"
    rw [List.length_map]
    have D2 : Dr K (upd (upd H d (.lst [.ref sc, .int (n + 1)])) p (.lst [])) d sc ns (n + 1) := ⟨Same.new hp _ _ D1.dr, Same.seq (Same.new hp) D1.sq, D.len, D1.pos⟩
    have X2 : Ex d H (upd (upd H d (.lst [.ref sc, .int (n + 1)])) p (.lst [])) := Ex.trans Ex.at (Ex.same (Same.new hp))
    generalize upd (upd H d (.lst [.ref sc, .int (n + 1)])) p (.lst []) = H2 at *
    have hm : ∃ m : Int, (if (ns.length : Int) > 1 then (ns.length : Int) else 1) = m ∧ 0 < m ∧ m ≤ 63 ∧ (ns ≠ [] → m = ns.length) := by
      have l := D.len
      refine ⟨_, rfl, ?_⟩
      by_cases c : (ns.length : Int) > 1
      · rw [if_pos c]
        exact ⟨by omega, by omega, fun _ => rfl⟩
      · rw [if_neg c]
        refine ⟨by decide, by decide, fun e => ?_⟩
        have := List.length_pos_iff.mpr e
        omega
    obtain ⟨m, em, m0, m1, m2⟩ := hm
    rw [em]
    have n0 := D.pos
    have fin : ∀ c : Int, CDivN n m ∧ (127 : Int) ≠ 0 ∧ spMixed [V.int c, V.int ((n.fdiv m).fmod 127)] H2 (fun x H1 => rI CDivN (fun i j => V.int (i.fdiv j)) x (V.int 7) H1 fun x H1 => rI (fun x j => j ≠ 0) (fun i j => V.int (i.fmod j)) x (V.int z) H1 Q) E0 := by
      intro c
      refine ⟨⟨by omega, by omega⟩, by decide, c, _, rfl, ?_, ?_, fun r r0 r1 => ?_⟩
      · rw [Int.fmod_eq_emod_of_nonneg _ (by decide)]; omega
      · rw [Int.fmod_eq_emod_of_nonneg _ (by decide)]; omega
      · walk_at "rd"
        refine ⟨⟨by decide, by decide⟩, by omega, ?_⟩
        rw [Int.fmod_eq_emod_of_nonneg _ (by omega)]
        exact q _ _ (Int.emod_nonneg _ (by omega)) (Int.emod_lt_of_pos _ z0) X2 ⟨_, D2⟩
    refine ite2 (fun hc => ?_) (fun _ => fin 0)
    have hne : ns ≠ [] := fun e => by subst e; exact absurd hc (by decide)
    refine p_ix (SqL.of D2.dr) (i := 0) (v := .ref sc) rfl ?_
    refine ⟨by omega, ?_⟩
    obtain ⟨c, hc⟩ := at_ints (ns := ns) (i := n.fmod m) (by rw [Int.fmod_eq_emod_of_nonneg _ (by omega)]; exact Int.emod_nonneg _ (by omega)) (by rw [Int.fmod_eq_emod_of_nonneg _ (by omega), ← m2 hne]; exact Int.emod_lt_of_pos _ m0)
    exact p_ix D2.sq hc (fin c)
end
end Toy

-- part: TN1
namespace L2
open PySem PySem.Spec PySem.Calls PyProof.Rows
theorem slot_type_ne : Slot "type" (cmpInfo .NotEq).2.1 "object.__ne__" :=
  .of (owner := "object") (n := "__ne__") (by rw [typeLookup_type, builtinLookup_eq_fast]; kernel_rfl) (by decide +kernel) (by decide +kernel) (by decide +kernel)
    (by first | exact .inl (by decide +kernel) | exact .inr (by decide +kernel)) (by rw [isSubtype_type]; kernel_rfl)
theorem slot_type_ne_refl : Slot "type" (cmpInfo .NotEq).2.2 "object.__ne__" :=
  .of (owner := "object") (n := "__ne__") (by rw [typeLookup_type, builtinLookup_eq_fast]; kernel_rfl) (by decide +kernel) (by decide +kernel) (by decide +kernel)
    (by first | exact .inl (by decide +kernel) | exact .inr (by decide +kernel)) (by rw [isSubtype_type]; kernel_rfl)
theorem slot_type_eq1 : Slot "type" "__eq__" "object.__eq__" := TypeEq.slot_type_eq
section
variable {prog : Program} {w : World} {A : Around} {E : Value → Shared → Prop} {s : Shared}
theorem ne_same_entry {a : String} (ha : ∀ s' : Shared, s'.TypeIs (.type a) "type") {Q : Fin → Shared → Prop} (q : Q (.done (.ret (.bool false))) s) :
    wpAny (model prog w) A (Builtin.«object.__ne__» ⟨[.type a, .type a], []⟩) Q E s := by
  unfold Builtin.«object.__ne__»
  repeat (first
    | with_reducible refine wpAny_cRoomFor_byValue rfl ?_
    | (refine wpAny_bind (m := callSpecialIfBound? (.type a) (Str.ofString "__eq__") [.type a]) (wpAny_callSpecialIfBound?_slot (ha s) slot_type_eq1
        (call_gives slot_type_eq1 (ha s) F.entry_object_eq (F.args_object_eq_2 _ _) (TypeEq.object_eq_same rfl (by simp)) ?_)); try dsimp only [Made.post])
    | (refine wpAny_bind (m := truthy (.bool _)) (wpAny_truthy_bool ?_))
    | wp_step)
  exact q
theorem ne_other_entry {a b : String} (ha : ∀ s' : Shared, s'.TypeIs (.type a) "type") (hne : (Value.type a == Value.type b) = false) {Q : Fin → Shared → Prop} (q : Q (.done (.ret .notImplemented)) s) :
    wpAny (model prog w) A (Builtin.«object.__ne__» ⟨[.type a, .type b], []⟩) Q E s := by
  unfold Builtin.«object.__ne__»
  repeat (first
    | with_reducible refine wpAny_cRoomFor_byValue rfl ?_
    | (refine wpAny_bind (m := callSpecialIfBound? (.type a) (Str.ofString "__eq__") [.type b]) (wpAny_callSpecialIfBound?_slot (ha s) slot_type_eq1
        (call_gives slot_type_eq1 (ha s) F.entry_object_eq (F.args_object_eq_2 _ _) (TypeEq.object_eq_other rfl hne) ?_)); try dsimp only [Made.post])
    | wp_step)
  exact q
theorem ne_type_same {a : String} (ha : ∀ s' : Shared, s'.TypeIs (.type a) "type") {Q : Value → Shared → Prop} (q : Q (.bool false) s) : wpAny (model prog w) A (compareOp .NotEq (.type a) (.type a)) Q E s := by
  show wpAny _ A (richCompare .NotEq _ _) Q E s
  exact wpAny_richCompare_same (T := "type") (ha s) (ha s) slot_type_ne (wpAny_call_entry slot_type_ne (ha s) F.cmpEntry_ne (ne_same_entry ha ⟨_, rfl, (by intro e; cases e), q⟩) (F.cmpArgs_ne _ _))
theorem ne_type_other {a b : String} (ha : ∀ s' : Shared, s'.TypeIs (.type a) "type") (hb : ∀ s' : Shared, s'.TypeIs (.type b) "type") (hne : (Value.type a == Value.type b) = false) {Q : Value → Shared → Prop} (q : Q (.bool true) s) :
    wpAny (model prog w) A (compareOp .NotEq (.type a) (.type b)) Q E s := by
  have hne' : (Value.type b == Value.type a) = false := by
    rw [Bool.eq_false_iff] at hne ⊢
    intro e
    exact hne (by rw [beq_iff_eq] at e ⊢; exact e.symm)
  show wpAny _ A (richCompare .NotEq _ _) Q E s
  rcases hi : cmpInfo CmpOp.NotEq with ⟨sym, f, r⟩
  have h1 : Slot "type" f "object.__ne__" := by have := slot_type_ne; rw [hi] at this; exact this
  have h2 : Slot "type" r "object.__ne__" := by have := slot_type_ne_refl; rw [hi] at this; exact this
  simp only [richCompare, hi, (ha s).oneThing_none]
  try with_reducible refine wpAny_holding ?_
  refine wpAny_bind (wpAny_cRoomFor_byValue rfl ?_)
  refine wpAny_bind (wpAny_typeOf (ha s) (wpAny_bind (wpAny_typeOf (hb s) ?_)))
  simp only [bne_self_eq_false, Bool.false_eq_true, if_false, pure_bind, Bool.not_false, if_true]
  refine wpAny_bind (m := tryCompare (.type a) _ (.type b)) (wpAny_tryCompare_declines (ha s) h1 (wpAny_call_entry h1 (ha s) F.cmpEntry_ne (ne_other_entry ha hne ⟨_, rfl, rfl, ?_⟩) (F.cmpArgs_ne _ _)))
  refine wpAny_bind (m := tryCompare (.type b) _ (.type a)) (wpAny_tryCompare_declines (hb s) h2 (wpAny_call_entry h2 (hb s) F.cmpEntry_ne (ne_other_entry hb hne' ⟨_, rfl, rfl, ?_⟩) (F.cmpArgs_ne _ _)))
  have hk : isSame (.type a) (.type b) = pure false := by rw [isSame_plain rfl, hne]
  exact wpAny_bind (wpAny_rule (wpAny_bind (wpAny_of_eq hk (wpAny_pure q))))
end
section
variable {X : Cx}
theorem op_neT : OpR X (compareOp .NotEq) (fun x y H Q => ∃ a b, x = .ty a ∧ y = .ty b ∧ Kn a ∧ Kn b ∧ Q (.bl (!decide (a = b))) H) := by
  intro pins s σ H x y v u Q I rx ry h
  obtain ⟨a, b, rfl, rfl, ka, kb, q⟩ := h
  cases rx
  cases ry
  by_cases e : a = b
  · subst e
    rw [decide_eq_true rfl] at q
    exact ne_type_same (fun s' => ka.is s') ⟨.bl false, H, I, rfl, q⟩
  · rw [decide_eq_false e] at q
    exact ne_type_other (fun s' => ka.is s') (fun s' => kb.is s') (by rw [ty_beq]; exact decide_eq_false e) ⟨.bl true, H, I, rfl, q⟩
end
end L2

-- part: SC1
namespace L2
open PySem PySem.Spec PySem.Calls PyProof.Rows
/-- one turn of {a number for a target in ..}: what was a turn's state W goes on to the next, the number in the set at D -/
def SetTurn (w : World) (g : TG) (te : TE) (vs : List Nat) (σ : St) (D : Addr) (Nx : Hp → Prop) (x : V) (H : Hp) : Prop :=
  g x (wipe σ vs) H fun τ H2 => wipe τ vs = wipe σ vs ∧ te τ H2 fun y H3 => ∃ (k : Int) (S : Int → Bool) (n : Nat), y = .int k ∧ H3 D = some (SetO w D S n) ∧ n + 1 < scanBound ∧ Nx (upd H3 D (SetO w D (fun j => S j || decide (j = k)) (if S k = true then n else n + 1)))
/-- the reading of {number for target in it} -/
def tSetI (w : World) (wi : TI) (g : TG) (te : TE) (vs : List Nat) : TE := fun σ H Q => wi σ H fun J H1 => ∀ D, H1 D = none →
  ∃ W : Nat → Nat → Hp → Prop, (∃ m, W 0 m (upd H1 D (SetO w D (fun _ => false) 0))) ∧
    ∀ i m Hi, W i m Hi → (J.stop i Hi ∧ Q (.ref D) Hi) ∨ (J.go i Hi ∧ ∃ Nx : Hp → Prop, (∀ H', Nx H' → ∃ m', m' < m ∧ W (i + 1) m' H') ∧ ∀ x H', J.yld i Hi x H' → SetTurn w g te vs σ D Nx x H')
section
variable {X : Cx}
theorem pe_setI {el tg src : Expr} {sc : Scope} {own : List (Str × Nat)} {at_ : Pos} {wi : TI} {g : TG} {te : TE} (calm : X.calm = true) (nd : X.N.Nodup) (pi : PI X tg src wi) (blk : BlkOk X.N X.env.scope sc own)
    (hg : ∀ (s : Shared) (H : Hp) (C : Addr) (cl : List (Str × Addr)) (fp : List Addr), PG (X.blk s H sc (compEnvC sc cl C X.env) fp) tg g)
    (he : ∀ (s : Shared) (H : Hp) (C : Addr) (cl : List (Str × Addr)) (fp : List Addr), PE (X.blk s H sc (compEnvC sc cl C X.env) fp) el te) (plain : ∀ x, foldedSetIterable src X.env x = pure x := by intro _; rfl) :
    PE X (.SetComp el [⟨tg, src, [], 0⟩] sc at_) (tSetI X.w wi g te (own.map (·.2))) := by
  refine ⟨fun pins s σ H Q I0 rd => ?_⟩
  rw [PpSet.eval_SetComp]
  have cells : ∀ y ∈ sc.names, y.2 = .free → ∃ c, X.env.cells.lookup y.1 = some c := fun y hy e => (blk.free y hy e).elim (fun k => I0.ok.has _ (.inl k)) fun k => I0.ok.has _ (.inr k)
  refine wpAny_comprehension_free (use := none) rfl plain (closure_ok cells) blk.kind (fun y hy e => by rw [blk.uniq y hy, e]) (thn (pi.run pins s σ H _ I0 rd) fun _ sa hx => thn hx fun _ sb ⟨it, fp, tn, J, Ha, ev, Ia, T, sta, fa, rdA⟩ => ?_)
  cases ev
  refine PpSet.newSet_ok (newEnv_comp ?_)
  obtain ⟨D, eD⟩ : ∃ D, sb.heap.objs.size = D := ⟨_, rfl⟩
  rw [eD]
  obtain ⟨W, ⟨m0, w0⟩, turn⟩ := rdA D (Ia.hok.fresh (Nat.le_of_eq eD))
  -- the new set stands
  obtain ⟨sn, esn⟩ : ∃ sn : Shared, sn = { sb with heap := sb.heap.push { cls := .type "set", dict := none, data := .set #[] 0 (.fresh 0 0 (!X.w.params.followText "set-order")) } } := ⟨_, rfl⟩
  obtain ⟨Hn, eHn⟩ : ∃ Hn : Hp, Hn = upd Ha D (SetO X.w D (fun _ => false) 0) := ⟨_, rfl⟩
  rw [← eHn] at w0
  rw [← esn]
  have older : ∀ b o, sb.heap.get? b = some o → sn.heap.get? b = some o := fun b o e => by rw [esn]; exact Heap.get?_push_of_some _ e
  have In : Inv X pins σ Hn sn := by
    rw [eHn, esn]
    exact Ia.laid (t' := sb.toks) (fun b o e => Heap.get?_push_of_some _ e) (Nat.le_of_eq eD) (by rw [← eD]; exact setO_new (setR_fresh X.w))
  have fn : ∀ b ∈ fp, FpOk X pins Hn b ∧ b < sn.heap.objs.size := fun b hb => by
    obtain ⟨o, e, _⟩ := T.obj _ _ sta b hb
    have lt := Heap.lt_size e
    have nb : b ≠ D := by rw [← eD]; exact Nat.ne_of_lt lt
    refine ⟨⟨by rw [eHn, upd_ne nb]; exact (fa b hb).1, (fa b hb).2⟩, ?_⟩
    rw [esn, Heap.size_push]
    exact Nat.lt_succ_of_lt lt
  have free : ∀ b ∈ fp, Hn b = none := fun b hb => (fn b hb).1.1
  have stn : tn 0 sn.heap := T.keep _ _ _ sta fun b _ o e => older b o e
  have Iblk := block_start In blk nd fn
  obtain ⟨cl, ecl⟩ : ∃ cl, cl = cellsFrom (sn.heap.objs.size + 1) sc.names (cloFrom X.env.cells sc.names []) := ⟨_, rfl⟩
  rw [← ecl] at Iblk
  have rg := hg sn Hn sn.heap.objs.size cl fp
  have re := he sn Hn sn.heap.objs.size cl fp
  obtain ⟨ce, ece⟩ : ∃ ce, ce = compEnvC sc cl sn.heap.objs.size X.env := ⟨_, rfl⟩
  rw [← ece] at Iblk rg re
  have here : ce.locals = sn.heap.objs.size := by rw [ece]; rfl
  obtain ⟨s4, es4⟩ : ∃ s4 : Shared, s4 = { sn with heap := pushCells (sn.heap.push { cls := .type "dict", data := .dict #[] }) sc.names } := ⟨_, rfl⟩
  have Iblk : Inv (X.blk sn Hn sc ce fp) [] (wipe σ (own.map (·.2))) Hn s4 := by rw [es4]; exact Iblk
  have st4 : tn 0 s4.heap := T.keep _ _ _ stn fun b _ o e => by rw [es4]; exact pushCells_keeps _ _ _ _ (Heap.get?_push_of_some _ e)
  suffices z : codeAny (model X.prog X.w) X.A (.compStart (.SetComp el [⟨tg, src, [], 0⟩] sc at_) 0 (.ref it) (.ref D) ce) (compPost (model X.prog X.w) X.A X.xe none (EP X pins σ Q) (.ref D) sn.heap.objs.size) s4 by
    subst ecl ece es4
    exact z
  have known : ∀ {τ : St} {H' : Hp} {s' : Shared}, Inv (X.blk sn Hn sc ce fp) [] τ H' s' → (∀ b ∈ fp, H' b = none) → ∀ b ∈ fp, FpOk (X.blk sn Hn sc ce fp) [] H' b := fun {τ H' s'} I' out b hb =>
    ⟨out b hb, (I'.ok.exf b hb).1, I'.ok.exfs b hb, .inl hb, fun x c e => (I'.ok.exf b hb).2 x c e, fun p hp => absurd (show p ∈ ([] : List (Addr × Obj)) ++ [] from hp) (by simp)⟩
  have loop : codeAny (model X.prog X.w) X.A (.compLoop (.SetComp el [⟨tg, src, [], 0⟩] sc at_) 0 (.ref it) (.ref D) ce) (compPost (model X.prog X.w) X.A X.xe none (EP X pins σ Q) (.ref D) sn.heap.objs.size) s4 := by
    refine PpSet.compLoopS_any (fun n s' => ∃ i H', Inv (X.blk sn Hn sc ce fp) [] (wipe σ (own.map (·.2))) H' s' ∧ tn i s'.heap ∧ (∀ b ∈ fp, H' b = none) ∧ W i n H') (fun n s5 ⟨i, H5, I5, st5, out5, w5⟩ => ?_) m0 ⟨0, Hn, Iblk, st4, free, w0⟩
    rcases turn i n H5 w5 with ⟨stop, fin⟩ | ⟨goes, Nx, less, step⟩
    · refine thnF (T.done (X.blk sn Hn sc ce fp) rfl rfl rfl calm i [] s5 _ H5 (fun _ _ => False) I5 (known I5 out5) st5 stop) fun r s6 ⟨er, I6⟩ => ?_
      cases er
      have back : Inv X pins σ H5 s6 := In.call' (ch := fp) I6.os I6.base I6.hok I6.bare fun b hb => by
        obtain ⟨⟨_, q1, q2, q3, q4, q5⟩, _⟩ := fn b hb
        exact ⟨q3, q1, q4, q5⟩
      obtain ⟨m, ns, _⟩ := I6.loc
      have ns : s6.heap.Ns ce.locals m := ns
      have out : H5 ce.locals = none := I6.free
      rw [here] at ns out
      obtain ⟨f0, f1, f2, f3, f4, f5⟩ := In.fpOk (Nat.le_refl _) out
      exact ⟨m, ns, fun h' same => ⟨.ref D, H5, back.turned (t' := s6.toks) (fun b o nb e => (same.2 b nb).trans e) f0 f1 f3 f4 f5, rfl, fin⟩⟩
    · refine thnF (T.item (X.blk sn Hn sc ce fp) rfl rfl rfl calm i [] s5 _ H5 (fun _ _ => False) I5 (known I5 out5) st5 goes) fun r s6 ⟨u, er, h6⟩ => ?_
      cases er
      refine thnF h6 fun _ s7 ⟨x, H7, I7, r7, y7, st7, out7⟩ => ?_
      refine thnF (rg.run _ s7 _ H7 x u _ (I7.pinned (known I7 out7) (T.obj _ _ st7)) r7 (step x H7 y7)) fun _ s8 ⟨τ, H8, I8, ew, q8⟩ => ?_
      refine wpAny_pure ?_
      simp only [if_true]
      refine thnF (re.run _ s8 τ H8 _ I8 q8) fun z s9 ⟨y, H9, I9, r9, k, S, c, ey, hD, room, nx⟩ => ?_
      cases ey
      obtain ⟨tk, rfl⟩ := r9
      refine thnF (mt_sadd (X := X.blk sn Hn sc ce fp) _ s9 τ H9 (.ref D) [.int k] (.ref D) [.int k tk] (fun _ H' => Nx H') I9 rfl (.cons ⟨tk, rfl⟩ .nil) ⟨D, k, S, c, rfl, rfl, hD, room, nx⟩) fun _ s10 ⟨_, H10, I10, _, nx10⟩ => ?_
      obtain ⟨m', lt, w'⟩ := less H10 nx10
      have stay : ∀ b ∈ fp, ∀ o, s7.heap.get? b = some o → s10.heap.get? b = some o ∧ H10 b = none := fun b hb o e => by
        have p := I10.pin (b, o) (List.mem_append_right _ (List.mem_append_right _ (mem_pinsAt hb e)))
        exact ⟨p.1, p.2.1⟩
      refine ⟨m', lt, i + 1, H10, (I10.unpinned (pins := [])).weak (by rw [← ew, wipe_length]) (fun j v e => by rw [← ew] at e; exact (wipe_some e).1), T.keep _ _ _ st7 fun b hb o e => (stay b hb o e).1, fun b hb => ?_, w'⟩
      obtain ⟨o, e, _⟩ := T.obj _ _ st7 b hb
      exact (stay b hb o e).2
  exact PpSet.codeAny_compStart_set loop (T.self X.A 0 _ _ _ st4 loop)
/-- len of such a set -/
theorem call_len_ints : CallR X (.builtin "len") (fun xs H Q => ∃ (a : Addr) (S : Int → Bool) (n : Nat), xs = [.ref a] ∧ H a = some (SetO X.w a S n) ∧ n < 1000000 ∧ Q (.int n) H) := by
  intro pins s σ H xs us Q I r h
  obtain ⟨a, S, n, rfl, ha, hn, q⟩ := h
  obtain ⟨o, es, ep, t, ho, hex, hd, _, _, _, _, hf, hs, _⟩ := setO_get I ha
  cases r with
  | cons r rr =>
    cases rr
    cases r
    exact call_len_set ho hex hd hf (by rw [hs]; omega) ⟨.int n, H, I.tok _, ⟨_, by rw [hs]⟩, q⟩
end
end L2

-- part: D1
namespace Toy
open PySem L2
/-! ### how many unlike ones -/
def dist (l : List Int) : Nat := (l.foldl addU []).length
theorem dist_snoc (l : List Int) (k : Int) : dist (l ++ [k]) = if k ∈ l then dist l else dist l + 1 := by
  unfold dist
  rw [List.foldl_append]
  show (addU (l.foldl addU []) k).length = _
  have m : k ∈ l.foldl addU [] ↔ k ∈ l := by
    have : ∀ (l ks : List Int), k ∈ l.foldl addU ks ↔ k ∈ ks ∨ k ∈ l := by
      intro l
      induction l with
      | nil => intro ks; simp
      | cons a l ih =>
        intro ks
        rw [List.foldl_cons, ih, mem_add, List.mem_cons]
        constructor
        · rintro ((h | h) | h)
          · exact .inl h
          · exact .inr (.inl h)
          · exact .inr (.inr h)
        · rintro (h | h | h)
          · exact .inl (.inl h)
          · exact .inl (.inr h)
          · exact .inr h
    rw [this]
    simp
  generalize l.foldl addU [] = R at *
  unfold addU
  by_cases h : k ∈ l
  · rw [if_pos (m.mpr h), if_pos h]
  · rw [if_neg fun z => h (m.mp z), if_neg h, List.length_append]
    rfl
theorem dist_le : ∀ n : Nat, ∀ l : List Int, l.length = n → dist l ≤ n
  | 0, l, h => by
    rw [List.eq_nil_of_length_eq_zero h]
    exact Nat.le_refl _
  | n + 1, l, h => by
    obtain ⟨r, k, rfl⟩ : ∃ (r : List Int) (k : Int), l = r ++ [k] := ⟨_, _, (List.dropLast_concat_getLast (fun z => by rw [z] at h; cases h)).symm⟩
    have hr : r.length = n := by
      rw [List.length_append] at h
      exact Nat.succ.inj h
    have ih := dist_le n r hr
    rw [dist_snoc]
    split <;> omega
theorem dist_nodup : ∀ n : Nat, ∀ l : List Int, l.length = n → (dist l = n ↔ l.Nodup)
  | 0, l, h => by
    rw [List.eq_nil_of_length_eq_zero h]
    exact ⟨fun _ => List.nodup_nil, fun _ => rfl⟩
  | n + 1, l, h => by
    obtain ⟨r, k, rfl⟩ : ∃ (r : List Int) (k : Int), l = r ++ [k] := ⟨_, _, (List.dropLast_concat_getLast (fun z => by rw [z] at h; cases h)).symm⟩
    have hr : r.length = n := by
      rw [List.length_append] at h
      exact Nat.succ.inj h
    have ih := dist_nodup n r hr
    have le := dist_le n r hr
    rw [dist_snoc, List.nodup_append]
    constructor
    · intro e
      split at e
      · omega
      · rename_i hk
        refine ⟨ih.mp (by omega), by simp, fun a ha b hb => ?_⟩
        rw [List.mem_singleton.mp hb]
        exact fun z => hk (z ▸ ha)
    · rintro ⟨h1, _, h3⟩
      rw [if_neg fun hk => h3 k hk k (List.mem_singleton.mpr rfl) rfl, ih.mpr h1]
/-! ### types -/
def SqA (K : PySem.W.Frag) (H : Hp) (p : Addr) (xs : List V) : Prop := SqL K H p xs ∨ SqT K H p xs
theorem Same.sqt {K : PySem.W.Frag} {H H' : Hp} {a : Addr} {xs : List V} (e : Same H H') (h : SqT K H a xs) : SqT K H' a xs := by
  rcases h with (h | ⟨o, h⟩) | h
  · exact .inl (.inl (e _ _ h))
  · exact .inl (.inr ⟨o, e _ _ h⟩)
  · exact .inr h
theorem SqA.same {K : PySem.W.Frag} {H H' : Hp} {p : Addr} {xs : List V} (e : Same H H') (h : SqA K H p xs) : SqA K H' p xs := h.elim (fun h => .inl (Same.seq e h)) fun h => .inr (Same.sqt e h)
theorem SqA.ty {K : PySem.W.Frag} {H : Hp} {p : Addr} {xs : List V} (h : SqA K H p xs) : ∃ T, TyB K H (.ref p) T ∧ (["list", "tuple"].contains T) = true := h.elim (fun h => ⟨"list", .lst h, by decide⟩) fun h => ⟨"tuple", .tup h, by decide⟩

theorem Kn.tup {K : PySem.W.Frag} {T : String} (h : Kn T) : PySem.W.kitOne K (.type T) (.type "tuple") = some (decide (T = "tuple")) := by
  rcases h with rfl | rfl | rfl | rfl | rfl | rfl | rfl | rfl <;> rfl
theorem Kn.bool {K : PySem.W.Frag} {T : String} (h : Kn T) : PySem.W.kitOne K (.type T) (.type "bool") = some (decide (T = "bool")) := by
  rcases h with rfl | rfl | rfl | rfl | rfl | rfl | rfl | rfl <;> rfl
theorem Kn.int {K : PySem.W.Frag} {T : String} (h : Kn T) : PySem.W.kitOne K (.type T) (.type "int") = some (decide (T = "int" ∨ T = "bool")) := by
  rcases h with rfl | rfl | rfl | rfl | rfl | rfl | rfl | rfl <;> rfl
theorem TyB.x {K : PySem.W.Frag} {H : Hp} {x : V} {T : String} (t : TyB K H x T) : TyX K H x (.type T) := by
  cases t with
  | non => exact .base .non
  | bl b => exact .base (.bl b)
  | int i => exact .base (.int i)
  | str z => exact .base (.str z)
  | byt b => exact .byt b
  | lst h =>
    rcases h with (h | ⟨o, h⟩) | ⟨o, its, n, lk, c, _⟩
    · exact .base (.lst h)
    · exact .base (.frz h)
    · exact .kList lk c
  | tup h =>
    rcases h with (h | ⟨o, h⟩) | ⟨o, its, n, lk, c, _⟩
    · exact .base (.tup h)
    · exact .fTuple h
    · exact .kTuple lk c
  | dK h => exact .base (.dK h)
theorem TyB.same {K : PySem.W.Frag} {H H' : Hp} (e : Same H H') {y : V} {T : String} (t : TyB K H y T) : TyB K H' y T := by
  cases t with
  | non => exact .non
  | bl b => exact .bl b
  | int i => exact .int i
  | str z => exact .str z
  | byt b => exact .byt b
  | lst h => exact .lst (Same.seq e h)
  | tup h => exact .tup (Same.sqt e h)
  | dK h => exact .dK (e _ _ h)
theorem seq_gen {t1 rest : TS} {D : Ends} {σ : St} {H : Hp} (Good : St → Hp → Prop) (h1 : ∀ nx : St → Hp → Prop, (∀ σ' H', Good σ' H' → nx σ' H') → t1 { D with nx := nx } σ H) (h2 : ∀ σ' H', Good σ' H' → rest D σ' H') : tSeq t1 rest D σ H := h1 _ h2
/-- the turns of a comprehension of numbers, whatever it goes over -/
theorem st_it {J : It} {n : Nat} {G : Hp → Prop} {Y : Nat → Hp → V → Hp → Prop} (wk : Walk J n G Y) {w : World} {g : TG} {te : TE} {vs : List Nat} {σ : St} {H1 : Hp} {D : Addr} {Qd : Hp → Prop} (Pv : Nat → Hp → Prop) (h0 : Pv 0 (upd H1 D (SetO w D (fun _ => false) 0)))
    (hG : ∀ i H, i ≤ n → Pv i H → G H) (hs : ∀ i x H H', i < n → Pv i H → Y i H x H' → SetTurn w g te vs σ D (Pv (i + 1)) x H') (hd : ∀ H, Pv n H → Qd H) :
    ∃ W : Nat → Nat → Hp → Prop, (∃ m, W 0 m (upd H1 D (SetO w D (fun _ => false) 0))) ∧
      ∀ i m Hi, W i m Hi → (J.stop i Hi ∧ Qd Hi) ∨ (J.go i Hi ∧ ∃ Nx : Hp → Prop, (∀ H', Nx H' → ∃ m', m' < m ∧ W (i + 1) m' H') ∧ ∀ x H', J.yld i Hi x H' → SetTurn w g te vs σ D Nx x H') := by
  refine ⟨fun i m H => i + m = n ∧ Pv i H, ⟨n, Nat.zero_add n, h0⟩, fun i m Hi ⟨e, p⟩ => ?_⟩
  have st := hG i Hi (by omega) p
  cases m with
  | zero =>
    have e0 : i = n := e
    subst e0
    exact .inl ⟨wk.stops Hi st, hd Hi p⟩
  | succ m => exact .inr ⟨wk.goes i Hi (by omega) st, Pv (i + 1), fun H' p' => ⟨m, Nat.lt_succ_self m, by omega, p'⟩, fun x H' y => hs i x Hi H' (by omega) p (wk.yields i Hi x H' (by omega) st y)⟩
theorem itT {A B : Prop} (h : A) : if True then A else B := by rw [if_pos trivial]; exact h
theorem kn_tup : Kn "tuple" := .inr (.inr (.inr (.inr (.inr (.inl rfl)))))
theorem yesT {σ : St} {H : Hp} {a b : Hp → Prop} (h : a H) : tYes σ H fun b' H3 => if b' = true then a H3 else b H3 := h
end Toy

-- part: M1
namespace Toy
open PySem L2
section
variable {P : Program} {w : World} {K : PySem.W.Frag} {mg : Str → Option Value} {base : Heap}
/-! ### is_turn -/
abbrev sIsMany : Stmt := s__is_many
theorem scIsMany : FnScope ["thing"] ["thing"] (defScope sIsMany) := ⟨rfl, rfl, rfl, by decide +kernel, rfl, by decide +kernel, by decide +kernel⟩
def manyB (m : Int) : Bool := decide (1 ≤ m) && decide (m ≤ 400)
def spIsMany : Sp := fun vs H Q _ => ∃ m, vs = [.int m] ∧ Q (.bl (manyB m)) H
theorem ok_isMany {f fN : Addr} {fd fdN : FuncData} (F : Fun K "_is_many" "_is_many" sIsMany f fd) (B : Bl mg) (N : Df K mg "is_number" sIsNum ["thing"] fN fdN) (gM : ∃ t, mg "MOST" = some (.int 400 t)) : FnOk P w K mg base CX0 2 f fd ["thing"] spIsMany := by
  have GN : FnOk P w K mg base CX0 1 fN fdN ["thing"] (spIsNum K) := ok_isNum N.F B
  obtain ⟨tm, hm⟩ := gM
  refine F.ok scIsMany (fun vs H Q E h => ?_) (fun cdv A outer s H vs Q E hr h => ?_)
  · obtain ⟨m, rfl, _⟩ := h
    rfl
  · obtain ⟨m, rfl, q⟩ := h
    refine ⟨_, pss_one (ps_ret (pe_and (pe_call GN hr rfl N.g N.F.kp N.b .nil pass0 (pa_cons (pv 0) pa_nil)) (pe_one (pe_chain op_le op_le pe_int (pv 0) (pe_glob rfl hm (v := .int 400) ⟨_, rfl⟩))))), ?_⟩
    show tRet _ _ [some (.int m)] H
    walk_at "rd"
    refine ⟨.int m, "int", rfl, .int m, ?_⟩
    unfold manyB at q
    walk_at "rd"
    refine iteT ?_
    by_cases h1 : 1 ≤ m
    · simp only [h1, decide_true, Bool.true_and] at q
      rw [decide_eq_true h1]
      exact iteT q
    · simp only [h1, decide_false, Bool.false_and] at q
      rw [decide_eq_false h1]
      exact iteF q
def absV (x : V) : Int := match x with
  | .int i => absI i
  | _ => 0
def turnB (xs : List V) (m : Int) : Bool := manyB m && (decide ((xs.length : Int) = m) && ((xs.map fun x => letB x m).all id && decide ((xs.map absV).Nodup)))
theorem all_ints {m : Int} : ∀ {xs : List V}, (xs.map fun x => letB x m).all id = true → ∃ L : List Int, xs = L.map V.int ∧ ∀ i ∈ L, 1 ≤ absI i ∧ absI i ≤ m
  | [], _ => ⟨[], rfl, fun _ h => nomatch h⟩
  | x :: r, h => by
    rw [List.map_cons, List.all_cons, Bool.and_eq_true] at h
    obtain ⟨L, e, b⟩ := all_ints h.2
    have h1 : letB x m = true := h.1
    cases x with
    | int i =>
      unfold letB at h1
      rw [Bool.and_eq_true] at h1
      refine ⟨i :: L, by rw [e]; rfl, fun j hj => ?_⟩
      rcases List.mem_cons.mp hj with rfl | hj
      · exact ⟨of_decide_eq_true h1.1, of_decide_eq_true h1.2⟩
      · exact b j hj
    | _ => cases h1
theorem abs_ints (L : List Int) : (L.map V.int).map absV = L.map absI := by
  rw [List.map_map]
  rfl
abbrev sTurn : Stmt := s_is_turn
theorem scTurn : FnScope ["thing", "many", "letter"] ["thing", "many"] (defScope sTurn) := ⟨rfl, rfl, rfl, by decide +kernel, rfl, by decide +kernel, by decide +kernel⟩
/-- a tuple of things of the built-in types, or no tuple -/
def Thing (K : PySem.W.Frag) (H : Hp) (x : V) (c : Option (List V)) : Prop := match c with
  | some xs => ∃ a, x = .ref a ∧ SqT K H a xs ∧ xs.length ≤ 1000 ∧ ∀ y ∈ xs, ∃ T, TyB K H y T
  | none => ∃ T, TyB K H x T ∧ T ≠ "tuple"
theorem Thing.same {H H' : Hp} {x : V} {c : Option (List V)} (e : Same H H') (h : Thing K H x c) : Thing K H' x c := by
  cases c with
  | some xs =>
    obtain ⟨a, h1, h2, h3, h4⟩ := h
    exact ⟨a, h1, Same.sqt e h2, h3, fun y hy => (h4 y hy).imp fun T t => TyB.same e t⟩
  | none =>
    obtain ⟨T, t, n⟩ := h
    exact ⟨T, TyB.same e t, n⟩
def thingB (c : Option (List V)) (m : Int) : Bool := match c with
  | some xs => turnB xs m
  | none => false
def spTurn (K : PySem.W.Frag) : Sp := fun vs H Q _ => ∃ x m c, vs = [x, .int m] ∧ Thing K H x c ∧ ∀ H', Same H H' → Q (.bl (thingB c m)) H'
theorem ok_turn {f fN fL fM : Addr} {fd fdN fdL fdM : FuncData} (F : Fun K "is_turn" "is_turn" sTurn f fd) (B : Bl mg) (N : Df K mg "is_number" sIsNum ["thing"] fN fdN) (L : Df K mg "is_letter" sIsLet ["thing", "many"] fL fdL) (M : Df K mg "_is_many" sIsMany ["thing"] fM fdM)
    (gM : ∃ t, mg "MOST" = some (.int 400 t)) : FnOk P w K mg base CX0 3 f fd ["thing", "many"] (spTurn K) := by
  have GL : FnOk P w K mg base CX0 2 fL fdL ["thing", "many"] (spIsLet K) := ok_isLet L.F B N
  have GM : FnOk P w K mg base CX0 2 fM fdM ["thing"] spIsMany := ok_isMany M.F B N gM
  refine F.ok scTurn (fun vs H Q E h => ?_) (fun cdv A outer s H vs Q E hr h => ?_)
  · obtain ⟨x, m, c, rfl, _⟩ := h
    rfl
  · obtain ⟨x, m, c, rfl, hx, q⟩ := h
    have hu := hu_of hr
    refine ⟨_, pss_cons (ps_if (PW.pt (pw_or (pt_not (pt_val (pe_call GM hr rfl M.g M.F.kp M.b .nil pass0 (pa_cons (pv 1) pa_nil))))
        (pw_or (pt_cmpR op_neT (pe_callTy call_type1 (by rfl) B.type (by decide +kernel) (pa_cons (pv 0) pa_nil)) (pe_bltn (v := .ty "tuple") (by rfl) B.tuple (by decide +kernel) rfl) (nomark _))
        (pw_or1 (pt_cmpR op_ne (pe_callB call_len_seq (by rfl) B.len PySem.boot_len (pa_cons (pv 0) pa_nil)) (pv 1) (nomark _)))))) (pss_one (ps_ret pe_bl)) pss_nil)
      (pss_one (ps_ret (pe_and (pe_callB (cr_all rfl) (by rfl) B.all (by decide +kernel) (pa_cons (pe_lc (own := [("letter", 2)]) (g := gName 2) (tt := tYes) rfl scTurn.nd (pi_tup (pv 0)) (blkOk_by (own := [("letter", 2)]) (N := ["thing", "many", "letter"]) (sc := defScope sTurn) (by decide +kernel))
          (fun _ _ _ _ _ => pg_name (i := 2) scTurn.nd rfl (Or.inl rfl)) (fun _ _ _ _ _ => pts_nil) (fun _ _ _ _ _ => pe_call GL hr rfl L.g L.F.kp L.b .nil pass0 (pa_cons (pv 2) (pa_cons (pv 1) pa_nil)))) pa_nil))
        (pe_one (pe_cmpR op_eq (pe_callB call_len_ints (by rfl) B.len PySem.boot_len (pa_cons (pe_setI (own := [("letter", 2)]) (g := gName 2) (te := tCB (fun xs H Q => ∃ i, xs = [.int i] ∧ Q (.int (if i < 0 then -i else i)) H) (tCons (tVar 2) tNil)) rfl scTurn.nd (pi_tup (pv 0)) (blkOk_by (own := [("letter", 2)]) (N := ["thing", "many", "letter"]) (sc := defScope sTurn) (by decide +kernel))
          (fun _ _ _ _ _ => pg_name (i := 2) scTurn.nd rfl (Or.inl rfl)) (fun _ _ _ _ _ => pe_callB call_abs (by rfl) B.abs (by decide +kernel) (pa_cons (pv 2) pa_nil))) pa_nil)) (pv 1) (nomark _)))))), ?_⟩
    show tSeq _ _ _ [some x, some (.int m), none] H
    refine seq_gen (fun σ' H' => σ' = [some x, some (.int m), none] ∧ H' = H ∧ manyB m = true ∧ ∃ xs, c = some xs ∧ (xs.length : Int) = m) (fun nx hnx => ?_) ?_
    · walk_at "rd"
      refine ⟨m, rfl, ?_⟩
      cases hm : manyB m with
      | false =>
        refine ⟨false, rfl, iteT (itT ?_)⟩
        have e : thingB c m = false := by
          cases c with
          | none => rfl
          | some xs =>
            show turnB xs m = false
            unfold turnB
            rw [hm]
            rfl
        rw [← e]
        exact q H (Same.refl H)
      | true =>
        refine ⟨true, rfl, iteF ?_⟩
        cases c with
        | none =>
          obtain ⟨T, ty, nT⟩ := hx
          refine ⟨x, T, rfl, ty, T, "tuple", rfl, rfl, Kn.ty ty, kn_tup, ?_⟩
          rw [decide_eq_false nT]
          exact iteT (itT (q H (Same.refl H)))
        | some xs =>
          obtain ⟨a, rfl, hs, hl, hy⟩ := hx
          refine ⟨.ref a, "tuple", rfl, .tup hs, "tuple", "tuple", rfl, rfl, kn_tup, kn_tup, ?_⟩
          rw [decide_eq_true rfl]
          refine iteF ⟨a, xs, rfl, .inr hs, rfl, ?_⟩
          by_cases hlen : (xs.length : Int) = m
          · rw [decide_eq_true (congrArg V.int hlen)]
            exact ⟨false, rfl, iteF (hnx _ _ ⟨rfl, rfl, hm, xs, rfl, hlen⟩)⟩
          · rw [decide_eq_false fun z => hlen (V.int.inj z)]
            refine ⟨true, rfl, iteT ?_⟩
            have e : thingB (some xs) m = false := by
              show turnB xs m = false
              unfold turnB
              rw [decide_eq_false hlen, hm]
              rfl
            rw [← e]
            exact q H (Same.refl H)
    rintro σ' H' ⟨rfl, rfl, hm, xs, rfl, hlen⟩
    obtain ⟨a, rfl, hs, hl, hy⟩ := hx
    have mb : 1 ≤ m ∧ m ≤ 400 := by
      unfold manyB at hm
      rw [Bool.and_eq_true] at hm
      exact ⟨of_decide_eq_true hm.1, of_decide_eq_true hm.2⟩
    walk_at "rd"
    refine ⟨_, rfl, a, rfl, ⟨_, hs⟩, fun D hD => lc_tup (K := K) (a := a) (xs := xs) (fun j Hj => Same H' Hj ∧ Hj D = some (.lst ((xs.take j).map fun x => V.bl (letB x m)))) ⟨Same.new hD, upd_same⟩ (fun j Hj _ ⟨e, _⟩ => Same.sqt e hs) ?_ ?_⟩
    · rintro j x Hj hj ⟨ej, hDj⟩
      have hjl : j < xs.length := (List.getElem?_eq_some_iff.mp hj).1
      obtain ⟨T, ty⟩ := hy x (List.mem_of_getElem? hj)
      refine ⟨rfl, yesT ?_⟩
      refine ⟨_, rfl, _, rfl, x, T, m, rfl, TyB.same ej ty, _, hDj, by rw [List.length_map, List.length_take]; exact small1000 (by omega), fun b o hb => ?_, ?_⟩
      · rw [upd_ne (ne_of_none hb hD)]
        exact ej b o hb
      · rw [upd_same, List.take_add_one, hj]
        simp only [Option.toList_some, List.map_append, List.map_cons, List.map_nil]
    rintro H5 ⟨s5, hD5⟩
    rw [List.take_length] at hD5
    refine ⟨D, xs.map fun x => letB x m, rfl, SqL.of (by rw [hD5, List.map_map]; rfl), _, rfl, ?_⟩
    cases hall : (xs.map fun x => letB x m).all id with
    | false =>
      have e : thingB (some xs) m = false := by
        show turnB xs m = false
        unfold turnB
        rw [hall]
        simp
      rw [e] at q
      exact iteF (q H5 s5)
    | true =>
      obtain ⟨L, rfl, hL⟩ := all_ints hall
      rw [List.length_map] at hlen hl
      have hs5 := Same.sqt s5 hs
      refine iteT ⟨_, rfl, a, rfl, ⟨_, hs5⟩, fun D2 hD2 => ?_⟩
      refine st_it walk_tup (fun j Hj => Same H5 Hj ∧ ∃ S, Hj D2 = some (SetO w D2 S (dist ((L.take j).map absI))) ∧ ∀ k, S k = decide (k ∈ (L.take j).map absI)) ⟨Same.new hD2, _, upd_same, fun k => by simp⟩ (fun j Hj _ ⟨e, _⟩ => Same.sqt e hs5) ?_ ?_
      · rintro j x Hj Hk hj ⟨ej, S, hDj, hS⟩ ⟨rfl, hx⟩
        rw [List.getElem?_map] at hx
        cases ez : L[j]? with
        | none => rw [ez] at hx; cases hx
        | some z =>
        rw [ez] at hx
        cases hx
        rw [List.length_map] at hj
        have tk : (L.take (j + 1)).map absI = (L.take j).map absI ++ [absI z] := by
          rw [List.take_add_one, ez]
          simp
        have lt : dist ((L.take j).map absI) ≤ j := by
          have := dist_le _ ((L.take j).map absI) rfl
          rw [List.length_map, List.length_take] at this
          omega
        refine ⟨rfl, _, rfl, z, rfl, absI z, S, _, rfl, hDj, by show _ < 4096; omega, fun b o hb => ?_, (fun k => S k || decide (k = absI z)), ?_, fun k => ?_⟩
        · rw [upd_ne (ne_of_none hb hD2)]
          exact ej b o hb
        · have e : dist ((L.take (j + 1)).map absI) = if S (absI z) = true then dist ((L.take j).map absI) else dist ((L.take j).map absI) + 1 := by
            rw [tk, dist_snoc, hS]
            by_cases h : absI z ∈ (L.take j).map absI
            · rw [if_pos h, decide_eq_true h, if_pos rfl]
            · rw [if_neg h, decide_eq_false h, if_neg (by decide)]
          rw [e]
          exact upd_same
        · show (S k || decide (k = absI z)) = _
          rw [tk, hS, Bool.eq_iff_iff]
          simp
      · rintro H6 ⟨s6, S, hD6, hS⟩
        rw [List.length_map, List.take_length] at hD6
        have dl : dist (L.map absI) ≤ L.length := dist_le _ _ (by rw [List.length_map])
        refine ⟨D2, S, _, rfl, hD6, by omega, rfl, ?_⟩
        have e : thingB (some (L.map V.int)) m = decide (V.int (dist (L.map absI) : Nat) = V.int m) := by
          show turnB _ m = _
          unfold turnB
          rw [hm, hall, abs_ints, List.length_map, decide_eq_true hlen]
          have dn := dist_nodup L.length (L.map absI) (by rw [List.length_map])
          by_cases h : (L.map absI).Nodup
          · rw [decide_eq_true h, decide_eq_true (by rw [dn.mpr h, hlen])]
            rfl
          · rw [decide_eq_false h, decide_eq_false fun z => h (dn.mp (by have := V.int.inj z; omega))]
            rfl
        rw [← e]
        exact q H6 (Same.trans s5 s6)
end
end Toy

-- part: D2
namespace Toy
open PySem L2
/-- 1, 2, .. n -/
def up (n : Nat) : List Int := (List.range n).map fun (i : Nat) => 1 + (i : Int)
theorem up_len (n : Nat) : (up n).length = n := by unfold up; rw [List.length_map, List.length_range]
theorem up_rg (m : Int) (h : 0 ≤ m) : rgV 1 (m + 1) = (up m.toNat).map V.int := by
  unfold rgV up
  rw [List.map_map, show (m + 1 - 1).toNat = m.toNat by omega]
  rfl
theorem up_abs (n : Nat) : (up n).map absI = up n := by
  unfold up
  rw [List.map_map]
  refine List.map_congr_left fun i _ => ?_
  show absI (1 + (i : Int)) = 1 + (i : Int)
  unfold absI
  rw [if_neg (by omega)]
theorem up_mem {n : Nat} {x : Int} : x ∈ up n ↔ 1 ≤ x ∧ x ≤ n := by
  unfold up
  rw [List.mem_map]
  constructor
  · rintro ⟨i, hi, rfl⟩
    have := List.mem_range.mp hi
    omega
  · rintro ⟨h1, h2⟩
    exact ⟨(x - 1).toNat, List.mem_range.mpr (by omega), by omega⟩
theorem up_nodup (n : Nat) : (up n).Nodup := by
  unfold up
  refine List.pairwise_map.mpr ?_
  refine List.Pairwise.imp ?_ (List.nodup_range (n := n))
  intro a b h e
  exact h (by omega)
theorem absI_neg (x : Int) : absI (-x) = absI x := by
  unfold absI
  split <;> split <;> omega
/-- a turn of n truths -/
def Trn (n : Nat) (L : List Int) : Prop := (L.map absI).Perm (up n)
theorem Trn.len {n : Nat} {L : List Int} (h : Trn n L) : L.length = n := by
  have := h.length_eq
  rw [List.length_map, up_len] at this
  exact this
theorem Trn.bd {n : Nat} {L : List Int} (h : Trn n L) {x : Int} (hx : x ∈ L) : 1 ≤ absI x ∧ absI x ≤ n := up_mem.mp (h.mem_iff.mp (List.mem_map.mpr ⟨x, hx, rfl⟩))
theorem Trn.small {n : Nat} {L : List Int} (h : Trn n L) {x : Int} (hx : x ∈ L) : x.natAbs ≤ n := by
  have := (h.bd hx).2
  rw [absI_nat] at this
  omega
theorem trn_up (n : Nat) : Trn n (up n) := by
  unfold Trn
  rw [up_abs]
theorem trn_swap {n : Nat} {L : List Int} (h : Trn n L) {i j : Nat} {a b a' b' : Int} (hi : L[i]? = some a) (hj : L[j]? = some b) (ea : absI a' = absI a) (eb : absI b' = absI b) : Trn n ((L.set i b').set j a') := by
  obtain ⟨i1, e1⟩ := List.getElem?_eq_some_iff.mp hi
  obtain ⟨j1, e2⟩ := List.getElem?_eq_some_iff.mp hj
  unfold Trn
  rw [List.map_set, List.map_set, ea, eb, ← e1, ← e2]
  have p := List.set_set_perm (as := L.map absI) (i := i) (j := j) (by rw [List.length_map]; exact i1) (by rw [List.length_map]; exact j1)
  rw [List.getElem_map, List.getElem_map] at p
  exact p.trans h
theorem trn_neg {n : Nat} {L : List Int} (h : Trn n L) {i : Nat} {a a' : Int} (hi : L[i]? = some a) (ea : absI a' = absI a) : Trn n (L.set i a') := by
  obtain ⟨i1, e1⟩ := List.getElem?_eq_some_iff.mp hi
  unfold Trn
  rw [List.map_set, ea, ← e1]
  have e : (L.map absI).set i (absI L[i]) = L.map absI := by
    have := List.set_getElem_self (as := L.map absI) (i := i) (by rw [List.length_map]; exact i1)
    rw [List.getElem_map] at this
    exact this
  rw [e]
  exact h
theorem trn_rot {n k : Nat} {L : List Int} (h : Trn n L) : Trn n (L.drop k ++ L.take k) := by
  unfold Trn
  rw [List.map_append]
  refine List.Perm.trans List.perm_append_comm ?_
  rw [← List.map_append, List.take_append_drop]
  exact h
theorem cut_ints (L : List Int) (lo hi : Option Int) : ∃ a b, cutV (L.map V.int) lo hi = ((L.drop a).take b).map V.int := by
  unfold cutV
  exact ⟨_, _, by rw [List.map_take, List.map_drop]⟩
theorem cut_from (L : List Int) (k : Nat) (h : k ≤ L.length) : cutV (L.map V.int) (some (k : Int)) none = (L.drop k).map V.int := by
  unfold cutV
  have e1 : HT.sIx (L.map V.int).length 0 (some (k : Int)) = k := by
    unfold HT.sIx
    rw [List.length_map]
    simp only
    split <;> omega
  have e2 : HT.sIx (L.map V.int).length (L.map V.int).length none = L.length := by
    unfold HT.sIx
    rw [List.length_map]
  rw [e1, e2, List.map_drop]
  refine List.take_of_length_le ?_
  rw [List.length_drop, List.length_map]
  exact Nat.le_refl _
theorem cut_to (L : List Int) (k : Nat) (h : k ≤ L.length) : cutV (L.map V.int) none (some (k : Int)) = (L.take k).map V.int := by
  unfold cutV
  have e1 : HT.sIx (L.map V.int).length (L.map V.int).length (some (k : Int)) = k := by
    unfold HT.sIx
    rw [List.length_map]
    simp only
    split <;> omega
  have e2 : HT.sIx (L.map V.int).length 0 none = 0 := by
    unfold HT.sIx
    rfl
  rw [e1, e2, List.drop_zero, Nat.sub_zero, List.map_take]
end Toy

-- part: SK6
namespace L2
open PySem PySem.Spec PyProof.Rows
section
variable {prog : Program} {w : World} {A : Around} {E : Value → Shared → Prop} {s : Shared}
/-- the items of a tuple, collected -/
theorem collect_tupK {t : Addr} {us : List Value} {Q : List Value → Shared → Prop} (ht : IsTup s.heap t us.toArray) (hz : us.length ≤ sizeLine)
    (q : Q us { s with heap := (s.heap.push (seqObj "list" #[] 0)).update s.heap.objs.size (Obj.mapSeq (· ++ us.toArray)) }) : wpAny (model prog w) A (collect (.ref t)) Q E s := by
  obtain ⟨o, ho, hc, n, hd⟩ := id ht
  have ho2 : (s.heap.push (seqObj "list" #[] 0)).get? t = some o := Heap.get?_push_of_some _ ho
  have fits : ((#[] : Array Value) ++ us.toArray).size ≤ sizeLine + 1 := by simp only [Array.size_append, List.size_toArray, List.length_nil]; omega
  unfold collect
  refine wpAny_bind (wpAny_runValue (codeAny_builtin entry_proto_collect' ?_))
  show wpAny _ _ (newList [] >>= fun r => again (.builtin "list.__iadd__" ⟨[r, .ref t], []⟩)) _ _ s
  refine wpAny_bind (wpAny_newList (wpAny_pure ⟨Code.quiet_builtin _ (by decide +kernel), codeAny_builtin entry_list_iadd' ?_⟩))
  show wpAny _ _ (Builtin.List.listExtendWith (.ref s.heap.objs.size) (.ref t) (.ref s.heap.objs.size)) _ _ { s with heap := s.heap.push (seqObj "list" #[] 0) }
  unfold Builtin.List.listExtendWith
  refine wpAny_bind (wpAny_typeOf (T := "tuple") ⟨o, ho2, hc⟩ ?_)
  rw [if_pos (by rw [show (Value.type "tuple" == Value.type "tuple") = true from rfl, Bool.or_true])]
  refine wpAny_bind (listItems_at ho2 hd (wpAny_bind (listItems_at (xs := #[]) (n := 0) (Heap.get?_push_size _ rfl) rfl ?_)))
  rw [if_neg (by simp)]
  refine wpAny_bind (listUpdate_at (xs := #[]) (n := 0) (Heap.get?_push_size _ rfl) rfl ?_ (Nat.zero_le _) fits)
  refine wpAny_pure (wpAny_bind (wpAny_load (get?_update_seq (Heap.get?_push_size _ rfl) _) ?_))
  have e : ((#[] : Array Value) ++ us.toArray).toList = us := by simp
  show wpAny _ _ (pure ((#[] : Array Value) ++ us.toArray).toList) Q E _
  rw [e]
  exact wpAny_pure q
end
def rSortU (K : PySem.W.Frag) (rel : V → Hp → VK → Prop) : V → Hp → VK → Prop := fun x H Q => ∃ a xs, x = .ref a ∧ SqT K H a xs ∧ SortGo K rel xs H Q
theorem run_tup {X : Cx} {f : Value} {rel : V → Hp → VK → Prop} {P : List (Addr × Obj)} (hu : X.A.units + 100 < cLine) (hf : KeyRel X P f rel) (ht : ∀ a : Addr, Builtin.«list.sort» ⟨[.ref a], [(Str.ofString "key", f)]⟩ = ksk_tree a f false) : RunS X P f (rSortU X.K rel) := by
  intro pins s σ H x u Q hP I r ⟨a, xs, ex, hs, g⟩
  cases ex
  cases r
  obtain ⟨its, rv, hl, hz⟩ := I.tuple hs
  have hz' : its.length ≤ sizeLine := by rw [← rv.length]; exact hz
  refine call_function_entry_kw kind_sorted plain_sorted entry_sorted (ksk_s1 _ _) ?_
  unfold Builtin.«sorted»
  refine wpAny_bind (m := checkCount "sorted" 1 1 _) (wpAny_pure (wpAny_bind (collect_tupK hl hz' ?_)))
  have I1 : Inv X pins σ H { s with heap := (s.heap.push (seqObj "list" #[] 0)).update s.heap.objs.size (Obj.mapSeq (· ++ its.toArray)) } := I.kept (t' := s.toks) fun b o e => by
    rw [Heap.get?_update_ne _ _ _ _ (Nat.ne_of_lt (Heap.lt_size e))]
    exact Heap.get?_push_of_some _ e
  exact sort_go hu I1 rv hz' g (hf.mono hP) ht fun v s' h => ⟨v, rfl, h⟩
end L2

-- part: W1
namespace Toy
open PySem L2
section
variable {P : Program} {w : World} {K : PySem.W.Frag} {mg : Str → Option Value} {base : Heap}
theorem p_ixT {H : Hp} {Q : VK} {p : Addr} {xs : List V} {i : Int} {v : V} (h : SqT K H p xs) (e : atI xs i = some v) (q : Q v H) : rIxT K (.ref p) (.int i) H Q := ⟨p, xs, i, v, rfl, rfl, h, e, q⟩
/-- what a letter goes to -/
def gL (L : List Int) (l : Int) : Int := if l > 0 then L.getD (l - 1).toNat 0 else -(L.getD (-l - 1).toNat 0)
theorem at_nat {L : List Int} {j : Nat} (h : j < L.length) : atI (L.map V.int) (j : Int) = some (V.int (L.getD j 0)) := atI_nat (by rw [List.getElem?_map, List.getElem?_eq_getElem h, List.getD_eq_getElem?_getD, List.getElem?_eq_getElem h]; rfl)
theorem at_pos {L : List Int} {l : Int} (h1 : 1 ≤ absI l) (h2 : absI l ≤ L.length) (p : l > 0) : atI (L.map V.int) (l - 1) = some (V.int (gL L l)) := by
  unfold absI at h1 h2
  rw [if_neg (by omega)] at h1 h2
  obtain ⟨j, e⟩ := Int.eq_ofNat_of_zero_le (by omega : 0 ≤ l - 1)
  rw [e, at_nat (by omega)]
  unfold gL
  rw [if_pos p, e, Int.toNat_natCast]
theorem at_neg {L : List Int} {l : Int} (h1 : 1 ≤ absI l) (h2 : absI l ≤ L.length) (p : ¬ l > 0) : atI (L.map V.int) (-l - 1) = some (V.int (-(gL L l))) := by
  unfold absI at h1 h2
  have hl : l < 0 := by
    by_cases z : l < 0
    · exact z
    · rw [if_neg z] at h1
      omega
  rw [if_pos hl] at h1 h2
  obtain ⟨j, e⟩ := Int.eq_ofNat_of_zero_le (by omega : 0 ≤ -l - 1)
  rw [e, at_nat (by omega)]
  unfold gL
  rw [if_neg p, e, Int.toNat_natCast, Int.neg_neg]
theorem gL_abs {n : Nat} {L : List Int} (t : Trn n L) {l : Int} (h1 : 1 ≤ absI l) (h2 : absI l ≤ n) : 1 ≤ absI (gL L l) ∧ absI (gL L l) ≤ n := by
  have ll := t.len
  unfold gL
  by_cases p : l > 0
  · rw [if_pos p]
    have : absI l = l := by unfold absI; rw [if_neg (by omega)]
    have hj : (l - 1).toNat < L.length := by omega
    rw [List.getD_eq_getElem?_getD, List.getElem?_eq_getElem hj]
    exact t.bd (List.getElem_mem hj)
  · rw [if_neg p, absI_neg]
    have hj : (-l - 1).toNat < L.length := by
      unfold absI at h1 h2
      by_cases z : l < 0
      · rw [if_pos z] at h1 h2
        omega
      · rw [if_neg z] at h1
        omega
    rw [List.getD_eq_getElem?_getD, List.getElem?_eq_getElem hj]
    exact t.bd (List.getElem_mem hj)
def spGoes (K : PySem.W.Frag) : Sp := fun vs H Q _ => ∃ (a : Addr) (L : List Int) (l : Int), vs = [.ref a, .int l] ∧ SqT K H a (L.map V.int) ∧ 1 ≤ absI l ∧ absI l ≤ L.length ∧ Q (.int (gL L l)) H
abbrev sLGoes : Stmt := s__law_goes
theorem scLGoes : FnScope ["turn", "letter"] ["turn", "letter"] (defScope sLGoes) := ⟨rfl, rfl, rfl, by decide +kernel, rfl, by decide +kernel, by decide +kernel⟩
theorem ok_lgoes {f : Addr} {fd : FuncData} (F : Fun K "_law_goes" "_law_goes" sLGoes f fd) : FnOk P w K mg base CX0 1 f fd ["turn", "letter"] (spGoes K) := by
  refine F.ok scLGoes (fun vs H Q E h => ?_) (fun cdv A outer s H vs Q E hr h => ?_)
  · obtain ⟨a, L, l, rfl, _⟩ := h
    rfl
  · obtain ⟨a, L, l, rfl, hs, h1, h2, q⟩ := h
    refine ⟨_, pss_one (ps_ret (pe_ifExp (pt_cmpR op_gt (pv 1) pe_int (nomark _)) (pe_ix ix_tup (pv 0) (pe_op op_sub (pv 1) pe_int) (fun _ _ => rfl)) (pe_un un_neg (pe_ix ix_tup (pv 0) (pe_op op_sub (pe_un un_neg (pv 1)) pe_int) (fun _ _ => rfl))))), ?_⟩
    show tRet _ _ [some (.ref a), some (.int l)] H
    walk_at "rd"
    by_cases p : l > 0
    · rw [decide_eq_true p]
      exact iteT (p_ixT hs (at_pos h1 h2 p) q)
    · rw [decide_eq_false p]
      refine iteF (p_ixT hs (at_neg h1 h2 p) ⟨_, rfl, ?_⟩)
      show Q (V.int (- -(gL L l))) _
      rw [Int.neg_neg]
      exact q
/-! ### no turn is refused -/
abbrev sRef : Stmt := s_refuse_no_turn
theorem scRef : FnScope ["thing"] ["thing"] (defScope sRef) := ⟨rfl, rfl, rfl, by decide +kernel, rfl, by decide +kernel, by decide +kernel⟩
theorem turnB_of {n : Nat} {L : List Int} (t : Trn n L) (h1 : 1 ≤ n) (h4 : n ≤ 400) : turnB (L.map V.int) (L.length : Int) = true := by
  have ll := t.len
  unfold turnB manyB
  rw [List.length_map, ll, decide_eq_true (by omega : (1 : Int) ≤ (n : Int)), decide_eq_true (by omega : (n : Int) ≤ 400), decide_eq_true rfl, abs_ints, decide_eq_true ((t.nodup_iff).mpr (up_nodup n))]
  simp only [Bool.true_and, Bool.and_true]
  rw [List.map_map, List.all_eq_true]
  intro y hy
  obtain ⟨i, hi, rfl⟩ := List.mem_map.mp hy
  have b := t.bd hi
  show (decide (1 ≤ absI i) && decide (absI i ≤ (n : Int))) = true
  rw [decide_eq_true b.1, decide_eq_true b.2]
  rfl
theorem thing_ints {H : Hp} {a : Addr} {L : List Int} (h : SqT K H a (L.map V.int)) (l : L.length ≤ 1000) : Thing K H (.ref a) (some (L.map V.int)) :=
  ⟨a, rfl, h, by rw [List.length_map]; exact l, fun y hy => by
    obtain ⟨i, _, rfl⟩ := List.mem_map.mp hy
    exact ⟨_, .int i⟩⟩
def spRef (K : PySem.W.Frag) : Sp := fun vs H Q _ => ∃ (a : Addr) (n : Nat) (L : List Int), vs = [.ref a] ∧ SqT K H a (L.map V.int) ∧ Trn n L ∧ 1 ≤ n ∧ n ≤ 400 ∧ ∀ H', Same H H' → Q .non H'
theorem ok_ref {f fT : Addr} {fd fdT : FuncData} (F : Fun K "refuse_no_turn" "refuse_no_turn" sRef f fd) (B : Bl mg) (T : Df K mg "is_turn" sTurn ["thing", "many"] fT fdT) (GT : FnOk P w K mg base CX0 3 fT fdT ["thing", "many"] (spTurn K)) :
    FnOk P w K mg base CX0 4 f fd ["thing"] (spRef K) := by
  refine F.ok scRef (fun vs H Q E h => ?_) (fun cdv A outer s H vs Q E hr h => ?_)
  · obtain ⟨a, n, L, rfl, _⟩ := h
    rfl
  · obtain ⟨a, n, L, rfl, hs, t, h1, h4, q⟩ := h
    refine ⟨_, pss_one (ps_if (PW.pt (pw_or (pt_cmpR op_neT (pe_callTy call_type1 (by rfl) B.type (by decide +kernel) (pa_cons (pv 0) pa_nil)) (pe_bltn (v := .ty "tuple") (by rfl) B.tuple (by decide +kernel) rfl) (nomark _))
        (pw_or1 (pt_not (pt_val (pe_call GT hr rfl T.g T.F.kp T.b .nil pass0 (pa_cons (pv 0) (pa_cons (pe_callB call_len_seq (by rfl) B.len PySem.boot_len (pa_cons (pv 0) pa_nil)) pa_nil)))))))) (pss_one ps_never) pss_nil), ?_⟩
    show tIfS _ _ _ _ [some (.ref a)] H
    walk_at "rd"
    refine ⟨.ref a, "tuple", rfl, .tup hs, "tuple", "tuple", rfl, rfl, kn_tup, kn_tup, ?_⟩
    rw [decide_eq_true rfl]
    refine iteF ⟨a, _, rfl, .inr hs, ?_⟩
    refine ⟨.ref a, _, some (L.map V.int), rfl, thing_ints hs (by rw [t.len]; omega), fun H' s' => ?_⟩
    have e : thingB (some (L.map V.int)) ((L.map V.int).length : Int) = true := by
      rw [List.length_map]
      exact turnB_of t h1 h4
    rw [e]
    exact ⟨true, rfl, iteF (q H' s')⟩
/-! ### clauses and parts -/
abbrev nClG : List Str := ["turn", "clause", "letter"]
theorem u100 {k : Nat} {A : Around} (hr : Room k A) : A.units + 100 < cLine := by have := hr.un; omega
def spClG (K : PySem.W.Frag) : Sp := fun vs H Q _ => ∃ (a c : Addr) (n : Nat) (L C : List Int), vs = [.ref a, .ref c] ∧ SqT K H a (L.map V.int) ∧ Trn n L ∧ SqT K H c (C.map V.int) ∧ C.length ≤ 1000 ∧ (∀ l ∈ C, 1 ≤ absI l ∧ absI l ≤ n) ∧
  ∀ (b : Addr) (S : List Int) (H' : Hp), Same H H' → S.Perm (C.map (gL L)) → S.Pairwise (fun x y => absI x ≤ absI y) → H' b = some (.tup (S.map V.int)) → Q (.ref b) H'
def spOfL (K : PySem.W.Frag) : Sp := fun vs H Q _ => ∃ (a : Addr) (n : Nat) (L : List Int) (l : Int), vs = [.ref a, .int l] ∧ SqT K H a (L.map V.int) ∧ Trn n L ∧ 1 ≤ n ∧ n ≤ 400 ∧ 1 ≤ absI l ∧ absI l ≤ n ∧ ∀ H', Same H H' → Q (.int (gL L l)) H'
def spOfC (K : PySem.W.Frag) : Sp := fun vs H Q E => ∃ n : Nat, 1 ≤ n ∧ n ≤ 400 ∧ ∃ (a c : Addr) (L C : List Int), vs = [.ref a, .ref c] ∧ SqT K H a (L.map V.int) ∧ Trn n L ∧ SqT K H c (C.map V.int) ∧ C.length ≤ 1000 ∧ (∀ l ∈ C, 1 ≤ absI l ∧ absI l ≤ n) ∧
  ∀ (b : Addr) (S : List Int) (H' : Hp), Same H H' → S.Perm (C.map (gL L)) → S.Pairwise (fun x y => absI x ≤ absI y) → H' b = some (.tup (S.map V.int)) → Q (.ref b) H'
abbrev nOfP : List Str := ["turn", "part", "letter"]
def spOfP (K : PySem.W.Frag) : Sp := fun vs H Q E => ∃ n : Nat, 1 ≤ n ∧ n ≤ 400 ∧ ∃ (a c : Addr) (L C : List Int), vs = [.ref a, .ref c] ∧ SqT K H a (L.map V.int) ∧ Trn n L ∧ SqT K H c (C.map V.int) ∧ C.length ≤ 1000 ∧ (∀ l ∈ C, 1 ≤ absI l ∧ absI l ≤ n) ∧
  ∀ (b : Addr) (H' : Hp), Same H H' → H' b = some (.tup ((C.map (gL L)).map V.int)) → Q (.ref b) H'
end
end Toy

-- part: RT1
namespace L2
open PySem PySem.Spec PySem.Calls PyProof.Rows HT
section
variable {prog : Program} {w : World} {A : Around} {E : Value → Shared → Prop} {s : Shared}
theorem adjust_back (n : Nat) : Builtin.Slice.sliceAdjust none none (-1) (n : Int) = ((n : Int) - 1, -1) := rfl
theorem places_back (n : Nat) : Builtin.Slice.slicePlaces ((n : Int) - 1) (-1) (-1) = n := by
  unfold Builtin.Slice.slicePlaces
  rw [if_neg (by decide : ¬ ((-1 : Int) > 0))]
  by_cases h : (n : Int) - 1 > -1
  · rw [if_pos h]
    show (((n : Int) - 1 - -1 - 1) / 1 + 1).toNat = n
    rw [Int.ediv_one]
    omega
  · rw [if_neg h]
    show (0 : Int).toNat = n
    omega
theorem fm_congr {α β : Type} {f g : α → Option β} : ∀ {l : List α}, (∀ x ∈ l, f x = g x) → l.filterMap f = l.filterMap g
  | [], _ => rfl
  | x :: l, h => by
    rw [List.filterMap_cons, List.filterMap_cons, h x List.mem_cons_self, fm_congr fun y hy => h y (List.mem_cons_of_mem _ hy)]
theorem picked_back (xs : Array Value) : ((List.range xs.size).filterMap fun (m : Nat) => xs[((xs.size : Int) - 1 + (m : Int) * -1).toNat]?) = xs.toList.reverse := by
  have e1 : ((List.range xs.size).filterMap fun (m : Nat) => xs[((xs.size : Int) - 1 + (m : Int) * -1).toNat]?) = (((List.range xs.size).map fun k => xs.size - 1 - k).filterMap fun i => xs[i]?) := by
    rw [List.filterMap_map]
    refine fm_congr fun m hm => ?_
    have := List.mem_range.mp hm
    show xs[((xs.size : Int) - 1 + (m : Int) * -1).toNat]? = xs[xs.size - 1 - m]?
    have e : ((xs.size : Int) - 1 + (m : Int) * -1).toNat = xs.size - 1 - m := by omega
    rw [e]
  rw [e1, PySem.W.krv_range, List.filterMap_reverse, PySem.W.krv_all]
theorem applied_back {sl : Addr} {t : Tok} {n : Nat} {Q : Int × Int × Nat → Shared → Prop} (hs : s.heap.IsSliceOf sl .none .none (.int (-1) t)) (q : Q ((n : Int) - 1, -1, n) s) : wpAny (model prog w) A (Builtin.Slice.sliceApplied (.ref sl) (pure (n : Int))) Q E s := by
  obtain ⟨o, ho, _, hd⟩ := id hs
  unfold Builtin.Slice.sliceApplied Builtin.Slice.sliceFields
  refine wpAny_bind (wpAny_bind (wpAny_field ho hd (x := .none) rfl (wpAny_bind (wpAny_field ho hd (x := .none) rfl (wpAny_bind (wpAny_field ho hd (x := .int (-1) t) rfl (wpAny_pure ?_)))))))
  refine wpAny_bind (slicePart_int ?_)
  show wpAny _ _ (if ((-1 : Int) == 0) = true then _ else _) _ _ s
  rw [if_neg (by decide)]
  refine wpAny_bind (slicePart_none (wpAny_bind (slicePart_none (wpAny_bind (wpAny_pure ?_)))))
  show wpAny _ _ (pure ((Builtin.Slice.sliceAdjust none none (-1) (n : Int)).1, (-1 : Int), Builtin.Slice.slicePlaces (Builtin.Slice.sliceAdjust none none (-1) (n : Int)).1 (Builtin.Slice.sliceAdjust none none (-1) (n : Int)).2 (-1))) _ _ s
  rw [adjust_back]
  show wpAny _ _ (pure ((n : Int) - 1, (-1 : Int), Builtin.Slice.slicePlaces ((n : Int) - 1) (-1) (-1))) _ _ s
  rw [places_back]
  exact wpAny_pure q
theorem back_tuple {t sl : Addr} {items : Array Value} {k : Tok} {Q : Value → Shared → Prop} (ht : IsTup s.heap t items) (hs : s.heap.IsSliceOf sl .none .none (.int (-1) k)) (hz : items.size ≤ sizeLine)
    (q : Q (.ref s.heap.objs.size) { s with heap := s.heap.push { cls := .type "tuple", data := .seq items.toList.reverse.toArray } }) : wpAny (model prog w) A (getItem (.ref t) (.ref sl)) Q E s := by
  obtain ⟨o, ho, hc, _⟩ := id hs
  have isSl : s.TypeIs (.ref sl) "slice" := ⟨o, ho, hc⟩
  have fits : sizeOk (.seq items.toList.reverse.toArray) := by
    show items.toList.reverse.toArray.size ≤ sizeLine
    rw [List.size_toArray, List.length_reverse, Array.length_toList]
    exact hz
  unfold getItem
  try with_reducible refine wpAny_holding ?_
  first | refine wpAny_bind (wpAny_pure ?_) | skip
  refine wpAny_bind (wpAny_sequenceKey ht.typeIs (by decide) (wpAny_bind (wpAny_callSpecial?_slot (name := Str.ofString "__getitem__") ht.typeIs slot_tuple_getitem (wpAny_call_entry slot_tuple_getitem ht.typeIs entry_tuple_getitem ?_ (args_tuple_getitem _ _)))))
  show wpAny _ _ (Builtin.Tuple.tupleItemsOf (.ref t) >>= _) _ _ s
  refine wpAny_bind (tupleItemsOf_ ht (wpAny_bind (wpAny_typeOf isSl ?_)))
  rw [if_pos (by decide)]
  refine wpAny_bind (applied_back hs ?_)
  show wpAny _ _ (if (((items.size : Int) - 1 == 0 && (-1 : Int) == 1) && items.size == items.size) = true then _ else _) _ _ s
  rw [if_neg (by rw [show ((-1 : Int) == 1) = false from rfl, Bool.and_false, Bool.false_and]; exact Bool.false_ne_true), picked_back]
  first
    | exact wpAny_bind (m := Builtin.Tuple.tupleExact _) (wpAny_newObj_type (wpAny_pure ⟨_, rfl, wpAny_pure q⟩) fits)
    | exact wpAny_bind (m := Builtin.Tuple.tupleExact _) (wpAny_newObj_type (wpAny_bind (wpAny_pure (wpAny_pure ⟨_, rfl, wpAny_pure q⟩))) fits)
    | exact wpAny_bind (wpAny_bind (m := Builtin.Tuple.tupleExact _) (wpAny_newObj_type (wpAny_pure (wpAny_pure ⟨_, rfl, wpAny_pure q⟩)) fits))
    | exact wpAny_bind (wpAny_bind (m := Builtin.Tuple.tupleExact _) (wpAny_newObj_type (wpAny_pure ⟨_, rfl, wpAny_pure q⟩) fits))
end
/-- t[::-1], t a tuple -/
def tRevT (K : PySem.W.Frag) (te : TE) : TE := fun σ H Q => te σ H fun x H1 => ∃ a xs, x = .ref a ∧ SqT K H1 a xs ∧ ∀ p, H1 p = none → Q (.ref p) (upd H1 p (.tup xs.reverse))
theorem pe_revT {X : Cx} {e : Expr} {te : TE} {k : Nat} {p1 p2 p3 pos : Pos} (he : PE X e te) : PE X (.Subscript e (.Slice none none (some (.UnaryOp .USub (.Constant (.int 1) k p1) p2)) p3) pos) (tRevT X.K te) := by
  refine ⟨fun pins s σ H Q I h => Subscript_ (thn (he.run pins s σ H _ I h) fun v s1 ⟨x, H1, I1, r1, a, xs, ex, hx, q⟩ => ?_)⟩
  cases ex
  cases r1
  have step : PO X (some (.UnaryOp .USub (.Constant (.int 1) k p1) p2)) (tPart (tUn (rU fun i => .int (-i)) (tC (.int 1)))) := po_some (pe_un un_neg pe_int)
  refine wpAny_Slice (thn (po_none.run pins s1 σ H1 (fun o H2 => o = none ∧ H2 = H1) I1 ⟨rfl, rfl⟩) fun ua s2 ⟨_, _, I2, part1, e1, e2⟩ => thn (po_none.run pins s2 σ H1 (fun o H3 => o = none ∧ H3 = H1) (e2 ▸ I2) ⟨rfl, rfl⟩) fun ub s3 ⟨_, _, I3, part2, e3, e4⟩ =>
    thn (step.run pins s3 σ H1 (fun o H4 => o = some (-1) ∧ H4 = H1) (e4 ▸ I3) ⟨1, rfl, -1, rfl, rfl, rfl⟩) fun uc s4 ⟨_, _, I4, part3, e5, e6⟩ => ?_)
  subst e1 e3 e5 e6
  cases part1
  cases part2
  cases part3
  have I5 := I4.kept (h' := s4.heap.push { cls := .type "slice", data := .fields #[.none, .none, .int (-1) ‹Tok›] }) (t' := s4.toks) fun b ob q => Heap.get?_push_of_some _ q
  obtain ⟨its, r, ht, hz⟩ := I5.tuple hx
  have hlen := r.length
  refine tail_any (ops := [.ref a, .ref s4.heap.objs.size]) ht.typeIs slot_tuple_getitem.lookup (back_tuple ht (Heap.IsSliceOf.new _ _ _ _) (by rw [List.size_toArray]; omega) ?_) (by with_unfolding_all rfl)
  refine ⟨.ref _, _, I5.laid (t' := s4.toks) (o := .tup xs.reverse) (fun b ob q => Heap.get?_push_of_some _ q) (Nat.le_refl _) ⟨?_, _, r.reverse, IsTup.new _ _⟩, rfl, q _ (I5.hok.fresh (Nat.le_refl _))⟩
  rw [List.length_reverse]
  exact hz
end L2

-- part: M2
namespace Toy
open PySem L2
section
variable {P : Program} {w : World} {K : PySem.W.Frag} {mg : Str → Option Value} {base : Heap}
abbrev sLTu : Stmt := s__law_turn
abbrev nLTu : List Str := ["draw", "many", "sort", "one", "other", "found", "pool", "k", "truth"]
theorem scLTu : FnScope nLTu ["draw", "many"] (defScope sLTu) := ⟨rfl, rfl, rfl, by decide +kernel, rfl, by decide +kernel, by decide +kernel⟩
def spLTu (K : PySem.W.Frag) : Sp := fun vs H Q _ => ∃ d m sc ns, vs = [.ref d, .int m] ∧ 1 ≤ m ∧ m ≤ 400 ∧ DrA K sc ns H d ∧
  ∀ (a : Addr) (L : List Int) (H' : Hp), Trn m.toNat L → Ex d H H' → DrA K sc ns H' d → H' a = some (.tup (L.map V.int)) → H a = none → Q (.ref a) H'
theorem none_back {d sc a : Addr} {ns : List Int} {H H' : Hp} (e : Ex d H H') (D : DrA K sc ns H' d) (ha : H' a = none) : H a = none := by
  cases h : H a with
  | none => rfl
  | some o =>
    have := e a o h (D.nd ha)
    rw [ha] at this
    cases this
theorem ixN_nat {n j : Nat} (h : j < n) : ixN n (j : Int) = some j := by
  unfold ixN
  rw [if_pos (by omega), if_pos (by omega), Int.toNat_natCast]
theorem get_int {L : List Int} {j : Nat} (h : j < L.length) : ∃ y, L[j]? = some y ∧ atI (L.map V.int) (j : Int) = some (V.int y) := ⟨L[j], List.getElem?_eq_getElem h, atI_nat (by rw [List.getElem?_map, List.getElem?_eq_getElem h]; rfl)⟩
theorem map_erase {α β : Type} (f : α → β) : ∀ (l : List α) (k : Nat), (l.map f).eraseIdx k = (l.eraseIdx k).map f
  | [], _ => rfl
  | _ :: _, 0 => rfl
  | x :: l, k + 1 => by
    show f x :: (l.map f).eraseIdx k = f x :: (l.eraseIdx k).map f
    rw [map_erase f l k]
theorem seqIx {k n : Nat} (h : k < n) : seqIndex? (k : Int) n = some k := by
  unfold seqIndex?
  have h0 : ¬ ((k : Int) < 0) := by omega
  have h1 : decide ((k : Int) < (n : Int)) = true := decide_eq_true (by omega)
  have h2 : decide (0 ≤ (k : Int)) = true := decide_eq_true (by omega)
  simp only [h0, if_false, h1, h2, Bool.and_self, if_true, Int.toNat_natCast]
theorem if_eq {k : Int} {A B : TS} {D : Ends} {σ : St} {H : Hp} (h : σ[2]? = some (some (.int k))) (q : A D σ H) : tIfS (tTest (tOp rEq (tVar 2) (tC (.int k)))) A B D σ H := ⟨_, h, rfl, true, by rw [decide_eq_true rfl], iteT q⟩
theorem if_ne {k r : Int} {A B : TS} {D : Ends} {σ : St} {H : Hp} (h : σ[2]? = some (some (.int r))) (n : r ≠ k) (q : B D σ H) : tIfS (tTest (tOp rEq (tVar 2) (tC (.int k)))) A B D σ H := ⟨_, h, rfl, false, by rw [decide_eq_false fun e => n (V.int.inj e)], iteF q⟩
def tPopAt (K : PySem.W.Frag) : TE := tBM K "list" rPopAt (tVar 6) (tCons (tCall (spNext K) [] E0 (tCons (tVar 0) (tCons (tCB (fun xs H Q => ∃ p ys, xs = [.ref p] ∧ (SqL K H p ys ∨ SqT K H p ys) ∧ Q (.int ys.length) H) (tCons (tVar 6) tNil)) tNil))) tNil)
def tSign (K : PySem.W.Frag) : TE := tOp (rIxL K) (tLst (tCons (tVar 8) (tCons (tUn (rU fun i => .int (-i)) (tVar 8)) tNil))) (tCall (spNext K) [] E0 (tCons (tVar 0) (tCons (tC (V.int 2)) tNil)))
theorem ok_ltu {f fM fX : Addr} {fd fdM fdX : FuncData} (F : Fun K "_law_turn" "_law_turn" sLTu f fd) (B : Bl mg) (M : Df K mg "_law_mixed" sMixed ["cell", "k"] fM fdM) (X : Df K mg "_law_next" sNext ["draw", "size"] fX fdX) :
    FnOk P w K mg base CX0 3 f fd ["draw", "many"] (spLTu K) := by
  have GX : FnOk P w K mg base CX0 2 fX fdX ["draw", "size"] (spNext K) := ok_next X.F B M
  refine F.ok scLTu (fun vs H Q E h => ?_) (fun cdv A outer s H vs Q E hr h => ?_)
  · obtain ⟨d, m, sc, ns, rfl, _⟩ := h
    rfl
  · obtain ⟨d, m, sc, ns, rfl, m1, m4, hD, q⟩ := h
    have hu := hu_of hr
    refine ⟨_, pss_cons (ps_par3 (i := 2) (j := 3) (l := 4) rfl scLTu.nd rfl rfl rfl (by decide) (by decide) (by decide) rfl rfl rfl (pa_cons (pe_call GX hr rfl X.g X.F.kp X.b .nil pass0 (pa_cons (pv 0) (pa_cons pe_int pa_nil)))
        (pa_cons (pe_call GX hr rfl X.g X.F.kp X.b .nil pass0 (pa_cons (pv 0) (pa_cons (pv 1) pa_nil))) (pa_cons (pe_call GX hr rfl X.g X.F.kp X.b .nil pass0 (pa_cons (pv 0) (pa_cons (pv 1) pa_nil))) pa_nil))) (by rfl))
      (pss_cons (ps_set (i := 5) scLTu.nd rfl (Or.inl rfl) (pe_listRg rfl (by rfl) B.list (prg_2 (by rfl) B.range pe_int (pe_op op_add (pv 1) pe_int))))
      (pss_cons (ps_if (pt_cmpR op_eq (pv 2) pe_int (nomark _))
        (pss_one (ps_asg (pe_tup (pa_cons (pe_ix ix_list (pv 5) (pv 4) (fun _ _ => rfl)) (pa_cons (pe_ix ix_list (pv 5) (pv 3) (fun _ _ => rfl)) pa_nil))) (pg_tup rfl (pgs_cons (pg_sub (pv 5) (pv 3) set_list) (pgs_cons (pg_sub (pv 5) (pv 4) set_list) pgs_nil)))))
        (pss_one (ps_if (pt_cmpR op_eq (pv 2) pe_int (nomark _))
          (pss_one (ps_asg (pe_un un_neg (pe_ix ix_list (pv 5) (pv 3) (fun _ _ => rfl))) (pg_sub (pv 5) (pv 3) set_list)))
          (pss_one (ps_if (pt_cmpR op_eq (pv 2) pe_int (nomark _))
            (pss_one (ps_asg (pe_tup (pa_cons (pe_un un_neg (pe_ix ix_list (pv 5) (pv 4) (fun _ _ => rfl))) (pa_cons (pe_un un_neg (pe_ix ix_list (pv 5) (pv 3) (fun _ _ => rfl))) pa_nil))) (pg_tup rfl (pgs_cons (pg_sub (pv 5) (pv 3) set_list) (pgs_cons (pg_sub (pv 5) (pv 4) set_list) pgs_nil)))))
            (pss_one (ps_if (pt_cmpR op_eq (pv 2) pe_int (nomark _))
              (pss_one (ps_set (i := 5) scLTu.nd rfl (Or.inl rfl) (pe_op op_cat (pe_slice sl_list (pv 5) (po_some (pv 3)) po_none) (pe_slice sl_list (pv 5) po_none (po_some (pv 3))))))
              (pss_cons (ps_set (i := 6) scLTu.nd rfl (Or.inr rfl) (pe_callTy (T := "list") call_list_of (by rfl) B.list (by decide +kernel) (pa_cons (pv 5) pa_nil)))
              (pss_cons (ps_setLc (i := 5) (own := [("k", 7)]) (g := gName 7) (tt := tYes) (te := tPopAt K) rfl scLTu.nd rfl rfl (sw_true rfl rfl rfl (by decide +kernel)) (pi_range1 rfl B.range (pa_cons (pv 1) pa_nil))
                (blkOk_by (own := [("k", 7)]) (N := nLTu) (sc := defScope sLTu) (by decide +kernel)) (fun _ _ _ _ _ => pg_name (i := 7) scLTu.nd rfl (Or.inl rfl)) (fun _ _ _ _ _ => pts_nil)
                (fun _ _ _ _ _ => pe_bm PySem.F.plainAttrs_list PySem.F.slot_list_pop PySem.F.type_list_pop mt_popAt (pv 6) (pa_cons (pe_call GX hr rfl X.g X.F.kp X.b .nil pass0 (pa_cons (pv 0) (pa_cons (pe_callB call_len_seq (by rfl) B.len PySem.boot_len (pa_cons (pv 6) pa_nil)) pa_nil))) pa_nil)))
              (pss_one (ps_setLc (i := 5) (own := [("truth", 8)]) (g := gName 8) (tt := tYes) (te := tSign K) rfl scLTu.nd rfl rfl (sw_true rfl rfl rfl (by decide +kernel)) (pi_list (pv 5))
                (blkOk_by (own := [("truth", 8)]) (N := nLTu) (sc := defScope sLTu) (by decide +kernel)) (fun _ _ _ _ _ => pg_name (i := 8) scLTu.nd rfl (Or.inl rfl)) (fun _ _ _ _ _ => pts_nil)
                (fun _ _ _ _ _ => pe_ix ix_list (pe_lst (pa_cons (pv 8) (pa_cons (pe_un un_neg (pv 8)) pa_nil))) (pe_call GX hr rfl X.g X.F.kp X.b .nil pass0 (pa_cons (pv 0) (pa_cons pe_int pa_nil))) (fun _ _ => rfl)))))))))))))
      (pss_one (ps_ret (pe_callTy call_tuple_of (by rfl) B.tuple (by decide +kernel) (pa_cons (pv 5) pa_nil)))))), ?_⟩
    show tSeq _ _ _ [some (.ref d), some (.int m), none, none, none, none, none, none, none] H
    obtain ⟨n, rfl⟩ := Int.eq_ofNat_of_zero_le (by omega : 0 ≤ m)
    rw [Int.toNat_natCast] at q
    refine seq_gen (fun σ' H' => ∃ (r : Int) (i j : Nat), σ' = [some (.ref d), some (.int n), some (.int r), some (.int i), some (.int j), none, none, none, none] ∧ 0 ≤ r ∧ r < 5 ∧ i < n ∧ j < n ∧ Ex d H H' ∧ DrA K sc ns H' d) (fun nx hnx => ?_) ?_
    · unfold tPar3
      walk_at "rd"
      refine ⟨d, 5, sc, ns, rfl, by decide, hD, fun r H1 r0 r5 E1 D1 => ?_⟩
      walk_at "rd"
      refine ⟨d, n, sc, ns, rfl, by omega, D1, fun i H2 i0 i1 E2 D2 => ?_⟩
      walk_at "rd"
      refine ⟨d, n, sc, ns, rfl, by omega, D2, fun j H3 j0 j1 E3 D3 => ?_⟩
      obtain ⟨i, rfl⟩ := Int.eq_ofNat_of_zero_le i0
      obtain ⟨j, rfl⟩ := Int.eq_ofNat_of_zero_le j0
      exact ⟨_, _, _, rfl, hnx _ _ ⟨r, i, j, rfl, r0, r5, by omega, by omega, Ex.trans E1 (Ex.trans E2 E3), D3⟩⟩
    rintro σ H1 ⟨r, i, j, rfl, r0, r5, hi, hj, E1, D1⟩
    refine seq_gen (fun σ' H' => ∃ (fl : Addr), σ' = [some (.ref d), some (.int n), some (.int r), some (.int i), some (.int j), some (.ref fl), none, none, none] ∧ Ex d H H' ∧ DrA K sc ns H' d ∧ H' fl = some (.lst ((up n).map V.int)) ∧ H fl = none) (fun nx hnx => ?_) ?_
    · walk_at "rd"
      refine ⟨_, rfl, (n : Int), 1, rfl, rfl, 1, (n : Int) + 1, rfl, rfl, RgOk.of_le (by decide) (by omega) (by decide) (by omega), fun fl hfl => ?_⟩
      rw [up_rg n (by omega), Int.toNat_natCast]
      exact hnx _ _ ⟨fl, rfl, Ex.trans E1 (Ex.same (Same.new hfl)), DrA.same (Same.new hfl) D1, upd_same, none_back E1 D1 hfl⟩
    rintro σ H2 ⟨fl, rfl, E2, D2, hfl, nfl⟩
    have ul := up_len n
    refine seq_gen (fun σ' H' => ∃ (l6 : Option V) (f2 : Addr) (L : List Int), σ' = [some (.ref d), some (.int n), some (.int r), some (.int i), some (.int j), some (.ref f2), l6, none, none] ∧ Trn n L ∧ Ex d H H' ∧ DrA K sc ns H' d ∧ H' f2 = some (.lst (L.map V.int))) (fun nx hnx => ?_) ?_
    · have one : ∀ (L : List Int) (H' : Hp), Trn n L → Ex d H H' → DrA K sc ns H' d → H' fl = some (.lst (L.map V.int)) → nx [some (.ref d), some (.int n), some (.int r), some (.int i), some (.int j), some (.ref fl), none, none, none] H' := fun L H' t e D h => hnx _ _ ⟨none, fl, L, rfl, t, e, D, h⟩
      obtain ⟨x, hx, ax⟩ := get_int (L := up n) (j := i) (by omega)
      obtain ⟨y, hy, ay⟩ := get_int (L := up n) (j := j) (by omega)
      have put : ∀ (L : List Int) (H' : Hp) (k : Nat) (z : Int), k < n → L.length = n → Ex d H H' → DrA K sc ns H' d → H' fl = some (.lst (L.map V.int)) → ixN (L.map V.int).length (k : Int) = some k ∧ Ex d H (upd H' fl (.lst ((L.set k z).map V.int))) ∧ DrA K sc ns (upd H' fl (.lst ((L.set k z).map V.int))) d ∧ (L.map V.int).set k (V.int z) = (L.set k z).map V.int := fun L H' k z hk hl e D h =>
        ⟨ixN_nat (by rw [List.length_map]; omega), Ex.up e nfl, DrA.up hD D e nfl, by rw [List.map_set]⟩
      have rr : r = 0 ∨ r = 1 ∨ r = 2 ∨ r = 3 ∨ r = 4 := by omega
      rcases rr with rfl | rfl | rfl | rfl | rfl
      · refine if_eq rfl ?_
        refine ⟨_, rfl, _, rfl, p_ix (SqL.of hfl) ay ?_⟩
        refine ⟨_, rfl, _, rfl, p_ix (SqL.of hfl) ax ?_⟩
        refine ⟨by show 2 ≤ sizeLine; decide, fun p hp => ?_⟩
        have sp := Same.new (o := .tup [V.int y, V.int x]) hp
        have hp1 : upd H2 p (.tup [V.int y, V.int x]) p = some (.tup [V.int y, V.int x]) := upd_same
        have E3 := Ex.trans E2 (Ex.same sp)
        have D3 := DrA.same sp D2
        have hf3 := sp _ _ hfl
        generalize upd H2 p (.tup [V.int y, V.int x]) = H3 at *
        obtain ⟨i1, E4, D4, e4⟩ := put (up n) H3 i y hi ul E3 D3 hf3
        have t4 : ((up n).set i y).length = n := by rw [List.length_set, ul]
        obtain ⟨j1, E5, D5, e5⟩ := put _ _ j x hj t4 E4 D4 upd_same
        refine ⟨p, _, rfl, SqT.of hp1, rfl, _, _, rfl, _, rfl, _, rfl, p_set hf3 i1 ?_⟩
        rw [e4]
        refine ⟨_, _, rfl, _, rfl, _, rfl, p_set upd_same j1 ?_⟩
        rw [e5]
        exact ⟨rfl, one _ _ (trn_swap (trn_up n) hx hy rfl rfl) E5 D5 upd_same⟩
      · refine if_ne (r := 1) rfl (by decide) (if_eq rfl ?_)
        obtain ⟨i1, E4, D4, e4⟩ := put (up n) H2 i (-x) hi ul E2 D2 hfl
        refine ⟨_, rfl, _, rfl, p_ix (SqL.of hfl) ax ⟨x, rfl, ?_⟩⟩
        refine ⟨_, rfl, _, rfl, p_set hfl i1 ?_⟩
        rw [e4]
        exact one _ _ (trn_neg (trn_up n) hx (absI_neg x)) E4 D4 upd_same
      · refine if_ne (r := 2) rfl (by decide) (if_ne (r := 2) rfl (by decide) (if_eq rfl ?_))
        refine ⟨_, rfl, _, rfl, p_ix (SqL.of hfl) ay ⟨y, rfl, ?_⟩⟩
        refine ⟨_, rfl, _, rfl, p_ix (SqL.of hfl) ax ⟨x, rfl, ?_⟩⟩
        refine ⟨by show 2 ≤ sizeLine; decide, fun p hp => ?_⟩
        have sp := Same.new (o := .tup [V.int (-y), V.int (-x)]) hp
        have hp1 : upd H2 p (.tup [V.int (-y), V.int (-x)]) p = some (.tup [V.int (-y), V.int (-x)]) := upd_same
        have E3 := Ex.trans E2 (Ex.same sp)
        have D3 := DrA.same sp D2
        have hf3 := sp _ _ hfl
        generalize upd H2 p (.tup [V.int (-y), V.int (-x)]) = H3 at *
        obtain ⟨i1, E4, D4, e4⟩ := put (up n) H3 i (-y) hi ul E3 D3 hf3
        have t4 : ((up n).set i (-y)).length = n := by rw [List.length_set, ul]
        obtain ⟨j1, E5, D5, e5⟩ := put _ _ j (-x) hj t4 E4 D4 upd_same
        refine ⟨p, _, rfl, SqT.of hp1, rfl, _, _, rfl, _, rfl, _, rfl, p_set hf3 i1 ?_⟩
        rw [e4]
        refine ⟨_, _, rfl, _, rfl, _, rfl, p_set upd_same j1 ?_⟩
        rw [e5]
        exact ⟨rfl, one _ _ (trn_swap (trn_up n) hx hy (absI_neg x) (absI_neg y)) E5 D5 upd_same⟩
      · refine if_ne (r := 3) rfl (by decide) (if_ne (r := 3) rfl (by decide) (if_ne (r := 3) rfl (by decide) (if_eq rfl ?_)))
        refine ⟨_, rfl, _, rfl, (i : Int), rfl, fl, _, rfl, SqL.of hfl, fun p1 hp1 => ?_⟩
        rw [cut_from _ i (by omega)]
        have s1 := Same.new (o := .lst (((up n).drop i).map V.int)) hp1
        have h1 : upd H2 p1 (.lst (((up n).drop i).map V.int)) p1 = some (.lst (((up n).drop i).map V.int)) := upd_same
        refine ⟨_, rfl, _, rfl, (i : Int), rfl, fl, _, rfl, SqL.of (s1 _ _ hfl), fun p2 hp2 => ?_⟩
        rw [cut_to _ i (by omega)]
        have s2 := Same.new (o := .lst (((up n).take i).map V.int)) hp2
        refine ⟨p1, p2, _, _, rfl, rfl, s2 _ _ h1, upd_same, ?_, fun p3 hp3 => ?_⟩
        · rw [List.length_map, List.length_map, List.length_drop, List.length_take, ul]
          exact Nat.le_of_lt (small1000 (by omega))
        · rw [← List.map_append]
          have s3 := Same.new (o := .lst (((up n).drop i ++ (up n).take i).map V.int)) hp3
          have s13 := Same.trans s1 (Same.trans s2 s3)
          exact hnx _ _ ⟨none, p3, _, rfl, trn_rot (trn_up n), Ex.trans E2 (Ex.same s13), DrA.same s13 D2, upd_same⟩
      · refine if_ne (r := 4) rfl (by decide) (if_ne (r := 4) rfl (by decide) (if_ne (r := 4) rfl (by decide) (if_ne (r := 4) rfl (by decide) ?_)))
        refine seq_gen (fun σ' H' => ∃ (pl : Addr), σ' = [some (.ref d), some (.int n), some (.int 4), some (.int i), some (.int j), some (.ref fl), some (.ref pl), none, none] ∧ Ex d H H' ∧ DrA K sc ns H' d ∧ H' pl = some (.lst ((up n).map V.int)) ∧ H pl = none) (fun nx2 hnx2 => ?_) ?_
        · exact ⟨_, rfl, fl, _, rfl, .inl (SqL.of hfl), fun pl hpl => hnx2 _ _ ⟨pl, rfl, Ex.trans E2 (Ex.same (Same.new hpl)), DrA.same (Same.new hpl) D2, upd_same, none_back E2 D2 hpl⟩⟩
        rintro σ H3 ⟨pl, rfl, E3, D3, hpl, npl⟩
        refine seq_gen (fun σ' H' => ∃ (f2 : Addr) (L : List Int), σ' = [some (.ref d), some (.int n), some (.int 4), some (.int i), some (.int j), some (.ref f2), some (.ref pl), none, none] ∧ Ex d H H' ∧ DrA K sc ns H' d ∧ H' f2 = some (.lst (L.map V.int)) ∧ L.Perm (up n)) (fun nx2 hnx2 => ?_) ?_
        · refine ⟨_, rfl, (n : Int), rfl, by omega, by omega, fun D hD' => ?_⟩
          have nD := none_back E3 D3 hD'
          have nDd := D3.nd hD'
          have nDp : D ≠ pl := fun e => by rw [e, hpl] at hD'; cases hD'
          refine lc_range (lo := 0) (n := (n : Int).toNat) (fun j Hj => Ex d H Hj ∧ DrA K sc ns Hj d ∧ ∃ fs rest : List Int, Hj D = some (.lst (fs.map V.int)) ∧ Hj pl = some (.lst (rest.map V.int)) ∧ fs.length = j ∧ (fs ++ rest).Perm (up n))
            ⟨Ex.up E3 nD, DrA.up hD D3 E3 nD, [], up n, upd_same, Same.new hD' _ _ hpl, rfl, List.Perm.refl _⟩ ?_ ?_
          · rintro k Hj hk ⟨Ej, Dj, fs, rest, hDj, hpj, lf, pm⟩
            have lr : fs.length + rest.length = n := by
              have := pm.length_eq
              rw [List.length_append, up_len] at this
              exact this
            rw [Int.toNat_natCast] at hk
            have npd : pl ≠ d := hD.nd npl
            refine ⟨rfl, yesT ?_⟩
            show tPopAt K [some (.ref d), some (.int n), some (.int 4), some (.int i), some (.int j), some (.ref fl), some (.ref pl), some (.int (0 + (k : Int))), none] Hj _
            unfold tPopAt
            walk_at "rd"
            refine ⟨.inl ⟨rfl, _, SqL.of hpj⟩, pl, _, rfl, .inl (SqL.of hpj), ?_⟩
            rw [List.length_map]
            refine ⟨d, (rest.length : Int), sc, ns, rfl, by omega, Dj, fun r H' r0' r1' E' D' => ?_⟩
            obtain ⟨z, rfl⟩ := Int.eq_ofNat_of_zero_le r0'
            have zl : z < rest.length := by omega
            have hp' := E' _ _ hpj npd
            have hd' := E' _ _ hDj nDd
            have gz : (rest.map V.int)[z]? = some (V.int rest[z]) := by rw [List.getElem?_map, List.getElem?_eq_getElem zl]; rfl
            refine ⟨pl, _, (z : Int), z, _, rfl, rfl, hp', by omega, by omega, seqIx (by rw [List.length_map]; exact zl), gz, fs.map V.int, ?_, by rw [List.length_map]; exact small1000 (by omega), ?_⟩
            · rw [upd_ne nDp]
              exact hd'
            have Ea := Ex.trans Ej E'
            have Eb := Ex.up (o := .lst ((rest.map V.int).eraseIdx z)) Ea npl
            have Db := DrA.up (o := .lst ((rest.map V.int).eraseIdx z)) hD D' Ea npl
            refine ⟨Ex.up Eb nD, DrA.up hD Db Eb nD, fs ++ [rest[z]], rest.eraseIdx z, by rw [upd_same, List.map_append]; rfl, by rw [upd_ne (Ne.symm nDp), upd_same, map_erase], by rw [List.length_append, lf]; rfl, ?_⟩
            rw [List.append_assoc]
            exact (List.Perm.append_left fs (erase_perm rest z _ (List.getElem?_eq_getElem zl))).trans pm
          · rintro H4 ⟨E4, D4, fs, rest, hD4, _, lf, pm⟩
            rw [Int.toNat_natCast] at lf
            have lr := pm.length_eq
            rw [List.length_append, up_len] at lr
            have r0 : rest = [] := List.eq_nil_of_length_eq_zero (by omega)
            subst r0
            rw [List.append_nil] at pm
            exact hnx2 _ _ ⟨D, fs, rfl, E4, D4, hD4, pm⟩
        rintro σ H4 ⟨f2, L, rfl, E4, D4, hf2, pm⟩
        have Ll : L.length = n := by
          have := pm.length_eq
          rw [up_len] at this
          exact this
        have La : (L.map absI).Perm (up n) := by
          have := pm.map absI
          rw [up_abs] at this
          exact this
        refine ⟨_, rfl, f2, rfl, ⟨_, SqL.of hf2⟩, fun D hD' => ?_⟩
        have nD := none_back E4 D4 hD'
        have nDd := D4.nd hD'
        have nDf : f2 ≠ D := fun e => by rw [← e, hf2] at hD'; cases hD'
        have nfd : f2 ≠ d := by
          obtain ⟨_, D4'⟩ := D4
          intro e
          rw [e, D4'.dr] at hf2
          have e2 := HO.lst.inj (Option.some.inj hf2)
          cases L with
          | nil => cases e2
          | cons z l => cases (List.cons.inj e2).1
        refine lc_list (K := K) (a := f2) (xs := L.map V.int) (fun j Hj => Ex d H4 Hj ∧ Ex d H Hj ∧ DrA K sc ns Hj d ∧ ∃ gs : List Int, Hj D = some (.lst (gs.map V.int)) ∧ gs.length = j ∧ gs.map absI = (L.take j).map absI)
          ⟨Ex.new hD', Ex.up E4 nD, DrA.up hD D4 E4 nD, [], upd_same, rfl, rfl⟩ (fun j Hj _ ⟨e, _⟩ => SqL.of (e _ _ hf2 nfd)) ?_ ?_
        · rintro k x Hj hk ⟨Ek, Ej, Dj, gs, hDj, lg, ag⟩
          rw [List.getElem?_map] at hk
          cases ez : L[k]? with
          | none => rw [ez] at hk; cases hk
          | some v =>
          rw [ez] at hk
          cases hk
          have kl : k < L.length := (List.getElem?_eq_some_iff.mp ez).1
          refine ⟨rfl, yesT ?_⟩
          show tSign K [some (.ref d), some (.int n), some (.int 4), some (.int i), some (.int j), some (.ref f2), some (.ref pl), none, some (.int v)] Hj _
          unfold tSign
          walk_at "rd"
          refine ⟨by show 2 ≤ sizeLine; decide, fun p hp => ?_⟩
          have sp1 : Same Hj (upd Hj p (.lst [V.int v, V.int (-v)])) := Same.new hp
          have hp1 : upd Hj p (.lst [V.int v, V.int (-v)]) p = some (.lst [V.int v, V.int (-v)]) := upd_same
          have npd := Dj.nd hp
          generalize upd Hj p (.lst [V.int v, V.int (-v)]) = Hk at *
          refine ⟨d, 2, sc, ns, rfl, by decide, DrA.same sp1 Dj, fun r Hm r0 r1' Em Dm => ?_⟩
          have pick : ∃ y : Int, atI [V.int v, V.int (-v)] r = some (.int y) ∧ absI y = absI v := by
            rcases at_two (a := V.int v) (b := V.int (-v)) r0 r1' with ⟨_, e⟩ | ⟨_, e⟩
            · exact ⟨_, e, rfl⟩
            · exact ⟨_, e, absI_neg v⟩
          obtain ⟨y, haty, hy⟩ := pick
          refine p_ix (SqL.of (Em _ _ hp1 npd)) haty ?_
          have Ejm : Ex d Hj Hm := Ex.trans (Ex.same sp1) Em
          refine ⟨gs.map V.int, Ejm _ _ hDj nDd, by rw [List.length_map]; exact small1000 (by omega), Ex.up (Ex.trans Ek Ejm) hD', Ex.up (Ex.trans Ej Ejm) nD, DrA.up hD Dm (Ex.trans Ej Ejm) nD, gs ++ [y], by rw [upd_same, List.map_append]; rfl, by rw [List.length_append, lg]; rfl, ?_⟩
          rw [List.map_append, ag, List.take_add_one, ez]
          simp [hy]
        · rintro H5 ⟨_, E5, D5, gs, hD5, lg, ag⟩
          rw [List.length_map, List.take_length] at ag
          exact hnx _ _ ⟨_, D, gs, rfl, by unfold Trn; rw [ag]; exact La, E5, D5, hD5⟩
    rintro σ H3 ⟨l6, f2, L, rfl, tL, E3, D3, hf2⟩
    walk_at "rd"
    exact ⟨f2, _, rfl, .inl ⟨SqL.of hf2, fun a ha => q a L _ tL (Ex.trans E3 (Ex.same (Same.new ha))) (DrA.same (Same.new ha) D3) upd_same (none_back E3 D3 ha)⟩⟩
end
end Toy

-- part: NE1
namespace L2
open PySem PySem.Spec PySem.Calls PyProof.Rows
/-- xs != [], whatever stands in xs -/
def rNeE (K : PySem.W.Frag) : R2 := fun x y H Q => ∃ a b xs, x = .ref a ∧ y = .ref b ∧ SqL K H a xs ∧ SqL K H b [] ∧ Q (.bl (!xs.isEmpty)) H
theorem op_neE {X : Cx} (hu : X.A.units + 64 < cLine) : OpR X (compareOp .NotEq) (rNeE X.K) := by
  intro pins s σ H x y v u Q I rx ry ⟨a, b, xs, ex, ey, ha, hb, q⟩
  subst ex ey
  cases xs with
  | nil => exact op_neD hu pins s σ H _ _ v u Q I rx ry ⟨.list [], .list [], .lst ha .nil, .lst hb .nil, by decide, by decide, q⟩
  | cons z zs =>
    cases rx
    cases ry
    obtain ⟨its, rv, pl, _⟩ := I.list ha
    obtain ⟨its2, rv2, pl2, _⟩ := I.list hb
    have e2 : its2 = [] := by cases rv2; rfl
    subst e2
    have n1 : its.length = zs.length + 1 := by rw [← rv.length]; rfl
    have big : (its.toArray.size != ([] : List Value).toArray.size) = true := by
      rw [List.size_toArray, n1]
      rfl
    exact SeqAt.RcNeAt.lists_lengths pl.isList pl2.isList big (by omega) X.prog X.w X.xe _ ⟨.bl true, H, I, rfl, q⟩
end L2

-- part: D3
namespace Toy
open PySem L2
theorem rise_up : ∀ (S : List Int) (lo : Int), S.Pairwise (· < ·) → (∀ x ∈ S, lo ≤ x ∧ x < lo + S.length) → S = (List.range S.length).map fun (i : Nat) => lo + (i : Int)
  | [], _, _, _ => rfl
  | a :: r, lo, h, b => by
    have h1 := List.pairwise_cons.mp h
    have ba := b a List.mem_cons_self
    have ih := rise_up r (lo + 1) h1.2 fun x hx => by
      have := h1.1 x hx
      have := b x (List.mem_cons_of_mem _ hx)
      rw [List.length_cons] at this
      omega
    have ea : a = lo := by
      cases r with
      | nil =>
        rw [List.length_cons, List.length_nil] at ba
        omega
      | cons c r =>
        have hc := h1.1 c List.mem_cons_self
        have e0 : c = lo + 1 := by
          rw [List.length_cons, List.range_succ_eq_map, List.map_cons] at ih
          have := (List.cons.inj ih).1
          omega
        omega
    rw [List.length_cons, List.range_succ_eq_map, List.map_cons, List.map_map]
    refine List.cons_eq_cons.mpr ⟨by omega, ?_⟩
    refine ih.trans (List.map_congr_left fun i _ => ?_)
    show lo + 1 + (i : Int) = lo + ((i + 1 : Nat) : Int)
    omega
theorem sorted_turn {n : Nat} {A S : List Int} (hl : A.length = n) (pm : S.Perm A) (rise : S.Pairwise (· ≤ ·)) : S = up n ↔ (∀ x ∈ A, 1 ≤ x ∧ x ≤ n) ∧ A.Nodup := by
  constructor
  · intro e
    subst e
    exact ⟨fun x hx => up_mem.mp (pm.mem_iff.mpr hx), (pm.nodup_iff).mp (up_nodup n)⟩
  · rintro ⟨hb, nd⟩
    have ndS : S.Nodup := (pm.nodup_iff).mpr nd
    have lS : S.length = n := pm.length_eq.trans hl
    have st : S.Pairwise (· < ·) := by
      have := List.Pairwise.and rise ndS
      exact this.imp fun {a b} h => by have h1 := h.1; have h2 := h.2; omega
    have := rise_up S 1 st fun x hx => by
      have := hb x (pm.mem_iff.mp hx)
      rw [lS]
      omega
    rw [lS] at this
    exact this
def isI (x : V) : Bool := match x with
  | .int _ => true
  | _ => false
theorem only_ints : ∀ {xs : List V}, (xs.filter fun x => !isI x) = [] → ∃ L : List Int, xs = L.map V.int
  | [], _ => ⟨[], rfl⟩
  | x :: r, h => by
    rw [List.filter_cons] at h
    cases x with
    | int i =>
      have h2 : (r.filter fun x => !isI x) = [] := h
      obtain ⟨L, e⟩ := only_ints h2
      exact ⟨i :: L, by rw [e]; rfl⟩
    | _ => cases h
theorem not_ints {xs : List V} {m : Int} (h : (xs.filter fun x => !isI x) ≠ []) : turnB xs m = false := by
  obtain ⟨y, hy⟩ := List.exists_mem_of_ne_nil _ h
  obtain ⟨hm, hn⟩ := List.mem_filter.mp hy
  have e : (xs.map fun x => letB x m).all id = false := by
    rw [Bool.eq_false_iff]
    intro z
    obtain ⟨L, rfl, _⟩ := all_ints z
    obtain ⟨i, _, rfl⟩ := List.mem_map.mp hm
    cases hn
  unfold turnB
  rw [e]
  simp
theorem due_turn {n : Nat} {L S : List Int} (hl : L.length = n) (pm : S.Perm (L.map absI)) (rise : S.Pairwise (· ≤ ·)) (h1 : 1 ≤ n) (h4 : n ≤ 400) : turnB (L.map V.int) (n : Int) = decide (S = up n) := by
  have e := sorted_turn (n := n) (A := L.map absI) (by rw [List.length_map]; exact hl) pm rise
  unfold turnB manyB
  rw [decide_eq_true (by omega : (1 : Int) ≤ (n : Int)), decide_eq_true (by omega : (n : Int) ≤ 400), List.length_map, decide_eq_true (by omega : (L.length : Int) = (n : Int)), abs_ints, Bool.true_and, Bool.true_and, Bool.true_and]
  rw [Bool.eq_iff_iff, Bool.and_eq_true, decide_eq_true_eq, decide_eq_true_eq, e]
  have ea : ((L.map V.int).map fun x => letB x (n : Int)).all id = true ↔ ∀ x ∈ L.map absI, 1 ≤ x ∧ x ≤ n := by
    rw [List.map_map, List.all_eq_true]
    constructor
    · intro h x hx
      obtain ⟨i, hi, rfl⟩ := List.mem_map.mp hx
      have := h _ (List.mem_map.mpr ⟨i, hi, rfl⟩)
      have h2 : (decide (1 ≤ absI i) && decide (absI i ≤ (n : Int))) = true := this
      rw [Bool.and_eq_true] at h2
      exact ⟨of_decide_eq_true h2.1, of_decide_eq_true h2.2⟩
    · intro h y hy
      obtain ⟨i, hi, rfl⟩ := List.mem_map.mp hy
      have := h _ (List.mem_map.mpr ⟨i, hi, rfl⟩)
      show (decide (1 ≤ absI i) && decide (absI i ≤ (n : Int))) = true
      rw [decide_eq_true this.1, decide_eq_true this.2]
      rfl
  rw [ea]
end Toy

-- part: MT
namespace Toy
open PySem L2
theorem gL_absI (L : List Int) {l : Int} (h1 : 1 ≤ absI l) : absI (gL L l) = absI (L.getD (absI l - 1).toNat 0) := by
  unfold gL
  by_cases p : l > 0
  · have : absI l = l := by unfold absI; rw [if_neg (by omega)]
    rw [if_pos p, this]
  · have : absI l = -l := by
      unfold absI at h1 ⊢
      by_cases z : l < 0
      · rw [if_pos z]
      · rw [if_neg z] at h1
        omega
    rw [if_neg p, absI_neg, this]
/-- the letter of a bit -/
def lOf (W : List Int) (i : Nat) : Int := if W.getD i 0 = 1 then 1 + (i : Int) else -(1 + (i : Int))
theorem lOf_abs (W : List Int) (i : Nat) : absI (lOf W i) = 1 + (i : Int) := by
  unfold lOf
  split
  · unfold absI; rw [if_neg (by omega)]
  · rw [absI_neg]; unfold absI; rw [if_neg (by omega)]
/-- where the letters go that hold -/
def imgs (L W : List Int) : List Int := (List.range W.length).map fun i => gL L (lOf W i)
theorem imgs_abs {L W : List Int} (h : W.length = L.length) : (imgs L W).map absI = L.map absI := by
  unfold imgs
  rw [List.map_map, h]
  refine List.ext_getElem (by simp) fun i h1 h2 => ?_
  rw [List.length_map] at h2
  rw [List.getElem_map, List.getElem_range, List.getElem_map]
  show absI (gL L (lOf W i)) = _
  have ea := lOf_abs W i
  rw [gL_absI L (by rw [ea]; omega), ea, show (1 + (i : Int) - 1).toNat = i by omega, List.getD_eq_getElem?_getD, List.getElem?_eq_getElem h2]
  rfl
theorem trn_imgs {n : Nat} {L W : List Int} (t : Trn n L) (h : W.length = n) : Trn n (imgs L W) := by
  unfold Trn
  rw [imgs_abs (h.trans t.len.symm)]
  exact t
theorem Trn.nd {n : Nat} {L : List Int} (t : Trn n L) : (L.map absI).Nodup := (t.nodup_iff).mpr (up_nodup n)
theorem srt_up {n : Nat} {S I : List Int} (t : Trn n I) (pm : S.Perm I) (rise : S.Pairwise fun a b => absI a ≤ absI b) : S.map absI = up n := by
  refine (sorted_turn (A := I.map absI) (by rw [List.length_map]; exact t.len) (pm.map absI) (List.pairwise_map.mpr rise)).mpr ⟨fun x hx => ?_, t.nd⟩
  obtain ⟨i, hi, rfl⟩ := List.mem_map.mp hx
  exact t.bd hi
theorem same_abs {I : List Int} (nd : (I.map absI).Nodup) {x y : Int} (hx : x ∈ I) (hy : y ∈ I) (e : absI x = absI y) : x = y := by
  induction I with
  | nil => cases hx
  | cons a I ih =>
    have h := List.nodup_cons.mp nd
    rcases List.mem_cons.mp hx with q | q
    · rcases List.mem_cons.mp hy with r | r
      · rw [q, r]
      · exact absurd (List.mem_map.mpr ⟨y, r, by rw [← e, q]⟩) h.1
    · rcases List.mem_cons.mp hy with r | r
      · exact absurd (List.mem_map.mpr ⟨x, q, by rw [e, r]⟩) h.1
      · exact ih h.2 q r
theorem bits_eq {n : Nat} {S I : List Int} (t : Trn n I) (pm : S.Perm I) (rise : S.Pairwise fun a b => absI a ≤ absI b) : S.map (fun l => if 0 < l then (1 : Int) else 0) = (up n).map fun k => if k ∈ I then (1 : Int) else 0 := by
  rw [← srt_up t pm rise, List.map_map]
  refine List.map_congr_left fun l hl => ?_
  have hI := pm.mem_iff.mp hl
  have b := t.bd hI
  show (if 0 < l then (1 : Int) else 0) = if absI l ∈ I then 1 else 0
  by_cases p : 0 < l
  · have : absI l = l := by unfold absI; rw [if_neg (by omega)]
    rw [if_pos p, this, if_pos hI]
  · rw [if_neg p, if_neg]
    intro h
    have h0 : ∀ z : Int, 1 ≤ z → absI z = z := fun z hz => by unfold absI; rw [if_neg (by omega)]
    have a2 := h0 _ b.1
    have := same_abs t.nd h hI a2
    omega
theorem strict_abs {S I : List Int} (pm : S.Perm I) (nd : (I.map absI).Nodup) (rise : S.Pairwise fun a b => absI a ≤ absI b) : S.Pairwise fun a b => a.natAbs < b.natAbs := by
  have n2 : (S.map absI).Nodup := ((pm.map absI).nodup_iff).mpr nd
  have n3 : S.Pairwise fun a b => absI a ≠ absI b := List.pairwise_map.mp n2
  refine (rise.and n3).imp fun {a b} h => ?_
  have h1 := h.1
  have h2 := h.2
  rw [absI_nat, absI_nat] at h1 h2
  omega
theorem ext_abs {S S' I I' : List Int} (p1 : S.Perm I) (p2 : S'.Perm I') (p : I.Perm I') (nd : (I.map absI).Nodup) (r1 : S.Pairwise fun a b => absI a ≤ absI b) (r2 : S'.Pairwise fun a b => absI a ≤ absI b) : S = S' :=
  inc_ext (strict_abs p1 nd r1) (strict_abs p2 (((p.map absI).nodup_iff).mp nd) r2) fun x => (p1.mem_iff.trans p.mem_iff).trans p2.mem_iff.symm
theorem nd_gL {n : Nat} {L C : List Int} (t : Trn n L) (b : ∀ l ∈ C, 1 ≤ absI l ∧ absI l ≤ n) (nd : (C.map absI).Nodup) : ((C.map (gL L)).map absI).Nodup := by
  rw [List.map_map]
  refine List.pairwise_map.mpr ((List.pairwise_map.mp nd).imp_of_mem fun {x y} hx hy h => ?_)
  have bx := b x hx
  have by_ := b y hy
  have ll := t.len
  show absI (gL L x) ≠ absI (gL L y)
  rw [gL_absI L bx.1, gL_absI L by_.1]
  obtain ⟨i, ei⟩ := Int.eq_ofNat_of_zero_le (by omega : 0 ≤ absI x - 1)
  obtain ⟨j, ej⟩ := Int.eq_ofNat_of_zero_le (by omega : 0 ≤ absI y - 1)
  rw [ei, ej, Int.toNat_natCast, Int.toNat_natCast]
  have hi : i < L.length := by omega
  have hj : j < L.length := by omega
  rw [List.getD_eq_getElem?_getD, List.getD_eq_getElem?_getD, List.getElem?_eq_getElem hi, List.getElem?_eq_getElem hj]
  show absI L[i] ≠ absI L[j]
  have pw := List.pairwise_iff_getElem.mp t.nd
  have hi' : i < (L.map absI).length := by rw [List.length_map]; exact hi
  have hj' : j < (L.map absI).length := by rw [List.length_map]; exact hj
  rcases Nat.lt_trichotomy i j with q | q | q
  · have := pw i j hi' hj' q
    rw [List.getElem_map, List.getElem_map] at this
    exact this
  · omega
  · have := pw j i hj' hi' q
    rw [List.getElem_map, List.getElem_map] at this
    exact fun e => this e.symm
theorem mem_fold : ∀ (l ks : List Int) (k : Int), k ∈ l.foldl addU ks ↔ k ∈ ks ∨ k ∈ l := by
  intro l
  induction l with
  | nil => intro ks k; simp
  | cons a l ih =>
    intro ks k
    rw [List.foldl_cons, ih, mem_add, List.mem_cons]
    constructor
    · rintro ((h | h) | h)
      · exact .inl h
      · exact .inr (.inl h)
      · exact .inr (.inr h)
    · rintro (h | h | h)
      · exact .inl (.inl h)
      · exact .inl (.inr h)
      · exact .inr h
theorem nd_fold : ∀ (l ks : List Int), ks.Nodup → (l.foldl addU ks).Nodup
  | [], _, h => h
  | a :: l, ks, h => nd_fold l _ (nd_add h a)
theorem len_fold : ∀ (l ks : List Int), (l.foldl addU ks).length ≤ ks.length + l.length
  | [], _ => Nat.le_refl _
  | a :: l, ks => by
    have h := len_fold l (addU ks a)
    have h2 := len_add (ks := ks) a
    show (l.foldl addU (addU ks a)).length ≤ _
    rw [List.length_cons]
    omega
theorem keys_fold (v : V) : ∀ (l : List Int) (kvs : List (Key × V)) (ks : List Int), kvs.map (·.1) = ks.map Sum.inl → (mergeK kvs (l.map fun i => (Sum.inl i, v))).map (·.1) = (l.foldl addU ks).map Sum.inl
  | [], _, _, h => h
  | a :: l, kvs, ks, h => keys_fold v l (putK kvs (Sum.inl a) v) (addU ks a) (keys_put inl_inj h a v)
end Toy

-- part: EN2
/-! enumerate of a tuple, from a number on -/
namespace EnC
open PySem PyProof.Rows
theorem sub_kw {M : Model} {A : Around} {E : Value → Shared → Prop} {s : Shared} {env : Env} {pos : Pos} {T : String} {e : Expr} {kws : List Keyword} {Q : Value → Shared → Prop}
    (q : wpAny M A (spliced (backTo pos (starEach [e] env))) (fun vs s1 => wpAny M A (evalAll ((backToKw pos (keywordEach kws env)).map (·.2))) (fun ks s2 => wpAny M A (call (.type T) vs (((backToKw pos (keywordEach kws env)).filterMap (·.1)).zip ks)) Q E s2) E s1) E s)
    (one : backTo pos (starEach [e] env) = (false, eval e env) :: backTo pos (starEach [] env)) (noStar : (backTo pos (starEach [e] env)).any (·.1) = false) (named : (backToKw pos (keywordEach kws env)).all (·.1.isSome) = true) (noSplat : (backToKw pos (keywordEach kws env)).any (·.1.isNone) = false) :
    wpAny M A (callWith pos (.type T) [] (backTo pos (starEach [e] env)) (backToKw pos (keywordEach kws env))) Q E s := by
  unfold callWith
  have args : wpAny M A (evalArgs (.type T) true (backTo pos (starEach [e] env)) (backToKw pos (keywordEach kws env))) (fun a s1 => wpAny M A (call (.type T) ([] ++ a.pos) a.kw) Q E s1) E s := by
    rw [one] at q ⊢
    exact evalArgs_kwB named q
  refine wpAny_bind (wpAny_holding (wpAny_mono args (fun a s1 h1 => wpAny_bind (wpAny_standAt ?_)) fun _ _ z => z))
  simp only [noStar, noSplat, Bool.or_false]
  exact wpAny_bind (wpAny_pure (wpAny_bind (wpAny_mono h1 (fun r s2 hr => wpAny_bind (wpAny_holding (wpAny_point (wpAny_pure hr)))) fun _ _ z => z)))
end EnC
namespace L2
open PySem PySem.Spec PyProof.Rows
/-- the tuple at a, each item in a new pair with its number from c on -/
def ItC (K : PySem.W.Frag) (a : Addr) (c : Int) : It :=
  ⟨fun i H => ∃ (xs : List V) (x : V), SqT K H a xs ∧ xs[i]? = some x, fun i H v H' => ∃ T x, v = .ref T ∧ H T = none ∧ H' = upd H T (.tup [.int (c + (i : Nat)), x]) ∧ ∀ xs, SqT K H a xs → xs[i]? = some x, fun i H => ∃ xs : List V, SqT K H a xs ∧ xs.length = i⟩
theorem turn_enumC {P : Program} {w : World} {K : PySem.W.Frag} {elts : List Expr} {kk : Nat} {tpos : Pos} (a e it : Addr) (c : Int) :
    Turn P w K (.Tuple elts kk tpos) (ItC K a c) [e, it] e (fun i h => (∃ old, IsEnum h e it (c + ((i : Nat) : Int)) old) ∧ h.IsTupleIter it a i ∧ e ≠ it) where
  mem := by simp
  obj := fun i h ⟨⟨old, he⟩, ⟨o, ho, hc, hd⟩, _⟩ b hb => by
    rcases (show b = e ∨ b = it by simpa using hb) with rfl | rfl
    · exact ⟨_, he, fun v q => nomatch q⟩
    · exact ⟨o, ho, fun v q => by rw [hd] at q; cases q⟩
  keep := fun i h h' ⟨⟨old, he⟩, hi, hne⟩ k => ⟨⟨old, k e (by simp) _ he⟩, hi.at fun o q => k it (by simp) o q, hne⟩
  item := by
    intro X hP hw hK hc i pins s σ H E I hf st hg
    subst hP hw hK
    obtain ⟨⟨old, he⟩, hit, hne⟩ := st
    obtain ⟨xs, x, hq, hx⟩ := hg
    obtain ⟨its, rv, p, hz⟩ := I.tuple hq
    obtain ⟨u, hu, ru⟩ := rv.get hx
    have le : e < s.heap.objs.size := Heap.lt_size he
    have li : it < s.heap.objs.size := by obtain ⟨_, q, _⟩ := hit; exact Heap.lt_size q
    have ai : a ≠ it := fun z => by
      obtain ⟨o1, h1, c1, _⟩ := hit
      obtain ⟨o2, h2, c2, _⟩ := p
      rw [z, h1] at h2
      cases h2
      rw [c1] at c2
      exact absurd (Value.type.inj c2) (by decide)
    have ae : e ∉ [it, a] := fun z => by
      rcases (show e = it ∨ e = a by simpa using z) with z | z
      · exact hne z
      · obtain ⟨o2, h2, c2, _⟩ := p
        rw [← z, show s.heap.get? e = _ from he] at h2
        cases h2
        exact absurd (Value.type.inj c2) (by decide)
    have D := Draws.tuple (prog := X.prog) (w := X.w) (A := X.A.in1) (I.ok.hd hc) it a ai its.toArray
    refine wpAny_pyNext_enum_itemC D he ⟨hit, p⟩ (by rw [List.size_toArray]; exact (List.getElem?_eq_some_iff.mp hu).1) hne ae fun v h' tk hv ho st' hT _ hk => ?_
    have ev : v = u := by
      have hv : its.toArray[i]? = some v := hv
      rw [show its.toArray[i]? = its[i]? by simp, hu] at hv
      exact (Option.some.inj hv).symm
    subst ev
    refine ⟨_, rfl, wpAny_letOwnedTupleGo_enum (s := { s with heap := h', toks := tk + 1 }) ho fun h2 he2 sb => ?_⟩
    have hT2 : h2.get? s.heap.objs.size = some { cls := .type "tuple", data := .seq #[.int (c + (i : Nat)) tk, v] } := (sb.2 _ (Nat.ne_of_gt le)).trans hT
    have I1 : Inv X pins σ (upd H s.heap.objs.size (.tup [.int (c + (i : Nat)), x])) { s with heap := h2, toks := tk + 1 } :=
      I.turnedNew (ch := [e, it]) (fun b ob hb q => (sb.2 b (fun z => hb (by simp [z]))).trans (hk b ob (fun z => hb (by simp [z])) (fun z => hb (by simp [z])) q)) hf (Nat.le_refl _)
        ⟨by show 2 ≤ sizeLine; decide, [.int (c + (i : Nat)) tk, v], .cons ⟨_, rfl⟩ (.cons ru .nil), ⟨_, hT2, rfl, _, rfl⟩⟩
    refine ⟨.ref s.heap.objs.size, _, I1, rfl, ⟨_, x, rfl, I.hok.fresh (Nat.le_refl _), rfl, fun ys hy => by rw [I.tuple_inj hy hq]; exact hx⟩, ⟨⟨v, ?_⟩, st'.1.at fun o q => (sb.2 it (Ne.symm hne)).trans q, hne⟩, fun b hb => ?_⟩
    · rw [show c + ((i + 1 : Nat) : Int) = c + (i : Int) + 1 by omega]
      exact he2
    · have lb : b < s.heap.objs.size := by
        rcases (show b = e ∨ b = it by simpa using hb) with rfl | rfl
        · exact le
        · exact li
      rw [upd_ne (Nat.ne_of_lt lb)]
      exact (hf b hb).1
  done := by
    intro X hP hw hK hc i pins s σ H E I hf st hg
    subst hP hw hK
    obtain ⟨⟨old, he⟩, hit, hne⟩ := st
    obtain ⟨xs, hq, hx⟩ := hg
    obtain ⟨its, rv, p, hz⟩ := I.tuple hq
    obtain ⟨f0, f1, f2, f3, f4, f5⟩ := hf it (by simp)
    have ai : a ≠ it := fun z => by
      obtain ⟨o1, h1, c1, _⟩ := hit
      obtain ⟨o2, h2, c2, _⟩ := p
      rw [z, h1] at h2
      cases h2
      rw [c1] at c2
      exact absurd (Value.type.inj c2) (by decide)
    have D := Draws.tuple (prog := X.prog) (w := X.w) (A := X.A.in1) (I.ok.hd hc) it a ai its.toArray
    have ei : i = its.toArray.size := by rw [List.size_toArray, ← rv.length]; exact hx.symm
    exact wpAny_pyNext_enum_endD D he ⟨ei ▸ hit, p⟩ fun h' eb => ⟨rfl, I.turned (t' := s.toks) (fun b o hb q => eb b o (by simpa using hb) q) f0 f1 f3 f4 f5⟩
  self := fun A i s Q E st h => let ⟨⟨_, he⟩, _⟩ := st; wpAny_pyIter_enum he h
theorem walk_enumC {K : PySem.W.Frag} {a : Addr} {xs : List V} {c : Int} : Walk (ItC K a c) xs.length (fun H => SqT K H a xs) (fun i H v H' => ∃ T x, v = .ref T ∧ H T = none ∧ H' = upd H T (.tup [.int (c + (i : Nat)), x]) ∧ xs[i]? = some x) :=
  ⟨fun i H hi q => ⟨xs, xs[i], q, by simp [hi]⟩, fun H q => ⟨xs, q, rfl⟩, fun i H v H' hi q ⟨T, x, e1, e2, e3, e4⟩ => ⟨T, x, e1, e2, e3, e4 xs q⟩⟩
theorem enum_start {X : Cx} {elts : List Expr} {kk : Nat} {tpos : Pos} {pins : List (Addr × Obj)} {σ : St} {H : Hp} {s : Shared} {a : Addr} {c : Int} {xs : List V} {R : It → Hp → Prop} {h' : Heap} (I : Inv X pins σ H s) (hq : SqT X.K H a xs)
    (he : IsEnum h' (s.heap.objs.size + 1) s.heap.objs.size c .none) (hi : h'.get? s.heap.objs.size = some { cls := .type "tuple_iterator", data := .fields #[.ref a, .int 0 0] }) (hk : ∀ b o, s.heap.get? b = some o → h'.get? b = some o) (q : R (ItC X.K a c) H) :
    PIE X pins σ (.Tuple elts kk tpos) R (.ref (s.heap.objs.size + 1)) { s with heap := h' } := by
  have up_ : ∀ b, b = s.heap.objs.size + 1 ∨ b = s.heap.objs.size → s.heap.objs.size ≤ b := fun b z => by rcases z with rfl | rfl <;> omega
  refine ⟨s.heap.objs.size + 1, [s.heap.objs.size + 1, s.heap.objs.size], _, _, H, rfl, I.kept (t' := s.toks) hk, turn_enumC a (s.heap.objs.size + 1) s.heap.objs.size c, ⟨⟨.none, ?_⟩, ⟨_, hi, rfl, rfl⟩, Nat.succ_ne_self _⟩, fun b hb => ?_, q⟩
  · rw [show c + ((0 : Nat) : Int) = c by simp]
    exact he
  · have le := up_ b (by simpa using hb)
    exact I.fpOk le (I.hok.fresh le)
/-- for .. in enumerate(t, c), t a tuple -/
def iEnumC (K : PySem.W.Frag) (ta : TA) : TI := fun σ H R => ta σ H fun vs H1 => ∃ a xs c, vs = [.ref a, .int c] ∧ SqT K H1 a xs ∧ -(2 ^ 63) ≤ c ∧ c < 2 ^ 63 ∧ R (ItC K a c) H1
theorem pi_enumC {X : Cx} {e e2 : Expr} {ta : TA} {p pos tpos : Pos} {elts : List Expr} {kk : Nat} (hg : Gl X "enumerate") (hm : X.mg "enumerate" = none) (ha : PA X [e, e2] ta)
    (hs : starEach [e, e2] X.env = (false, eval e X.env) :: starEach [e2] X.env := by rfl) (hpl : (backTo pos (starEach [e2] X.env)).any (·.1) = false := by rfl) :
    PI X (.Tuple elts kk tpos) (.Call (.Name "enumerate" p) [e, e2] [] pos) (iEnumC X.K ta) := by
  refine ⟨fun pins s σ H R I h => Call_ (ld_blt I hg hm boot_enumerate (PyProof.Rows.callWith_type1 (thn (ha.run pos pins s σ H _ I h) fun us s1 ⟨vs, H1, I1, r1, a, xs, c, ex, hq, c0, c1, q⟩ => ?_) hs hpl))⟩
  subst ex
  obtain ⟨u, u2, rfl, ru, ru2⟩ := vals2 r1
  cases ru
  obtain ⟨t, rfl⟩ := ru2
  obtain ⟨its, rv, p', hz⟩ := I1.tuple hq
  exact PySem.enum_begins (PySem.begins_tuple a its.toArray) p' c0 c1 fun h' he hi _ hk => wpAny_pyIter_enum he (enum_start I1 hq he hi hk q)
/-- for .. in enumerate(t, start=c) -/
def iEnumK (K : PySem.W.Frag) (ta : TA) (tc : TE) : TI := fun σ H R => ta σ H fun vs H1 => tc σ H1 fun y H2 => ∃ a xs c, vs = [.ref a] ∧ y = .int c ∧ SqT K H2 a xs ∧ -(2 ^ 63) ≤ c ∧ c < 2 ^ 63 ∧ R (ItC K a c) H2
theorem pi_enumK {X : Cx} {e ke : Expr} {ta : TA} {tc : TE} {p pos kpos tpos : Pos} {elts : List Expr} {kk : Nat} (hg : Gl X "enumerate") (hm : X.mg "enumerate" = none) (ha : PA X [e] ta) (hc : PE X ke tc)
    (h1 : backTo pos (starEach [e] X.env) = (false, eval e X.env) :: backTo pos (starEach [] X.env) := by rfl) (hpl : (backTo pos (starEach [e] X.env)).any (·.1) = false := by rfl)
    (hall : (backToKw pos (keywordEach [⟨some "start", ke, kpos⟩] X.env)).all (·.1.isSome) = true := by rfl) (hnone : (backToKw pos (keywordEach [⟨some "start", ke, kpos⟩] X.env)).any (·.1.isNone) = false := by rfl) :
    PI X (.Tuple elts kk tpos) (.Call (.Name "enumerate" p) [e] [⟨some "start", ke, kpos⟩] pos) (iEnumK X.K ta tc) := by
  refine ⟨fun pins s σ H R I h => ?_⟩
  refine wpAny_Call_Name_kw (ld_blt I hg hm boot_enumerate ?_ (by decide))
  refine EnC.sub_kw (thn (ha.run pos pins s σ H _ I h) fun us s1 ⟨vs, H1, I1, r1, q1⟩ => ?_) h1 hpl hall hnone
  show wpAny _ _ (evalAll ((do let v ← eval ke X.env; standAt pos; pure v) :: [])) _ _ s1
  refine wpAny_evalAll_cons (wpAny_bind (thn (hc.run pins s1 σ H1 _ I1 q1) fun v s2 ⟨y, H2, I2, r2, a, xs, c, ex, ey, hq, c0, c1, q⟩ => wpAny_bind (wpAny_standAt (wpAny_pure ?_))))
  refine wpAny_evalAll_nil ?_
  subst ex ey
  obtain ⟨u, rfl, ru⟩ := vals1 r1
  cases ru
  obtain ⟨t, rfl⟩ := r2
  obtain ⟨its, rv, p', hz⟩ := I2.tuple hq
  exact PySem.enum_begins_start (PySem.begins_tuple a its.toArray) p' c0 c1 fun h' he hi _ hk => wpAny_pyIter_enum he (enum_start I2 hq he hi hk q)
end L2

-- part: W2
namespace Toy
open PySem L2
section
variable {P : Program} {w : World} {K : PySem.W.Frag} {mg : Str → Option Value} {base : Heap}
/-! ### answers -/
abbrev nIsW : List Str := ["thing", "many", "worth"]
def spIsW (K : PySem.W.Frag) : Sp := fun vs H Q _ => ∃ (b : Addr) (W : List Int), vs = [.ref b, .int (W.length : Int)] ∧ SqT K H b (W.map V.int) ∧ W.length ≤ 1000 ∧ (∀ x ∈ W, x = 0 ∨ x = 1) ∧ ∀ H', Same H H' → Q (.bl true) H'
def tBit (K : PySem.W.Frag) : TE := tAndV (tCall (spIsNum K) [] E0 (tCons (tVar 2) tNil)) (tOp (rIn K false) (tVar 2) (tTup (tCons (tC (V.int 0)) (tCons (tC (V.int 1)) tNil))))
abbrev nOfA : List Str := ["turn", "answer", "holding", "k", "worth", "letter"]
def bitsOf (n : Nat) (I : List Int) : List Int := (up n).map fun k => if k ∈ I then 1 else 0
def spOfA (K : PySem.W.Frag) : Sp := fun vs H Q _ => ∃ (a b : Addr) (n : Nat) (L W : List Int), vs = [.ref a, .ref b] ∧ SqT K H a (L.map V.int) ∧ Trn n L ∧ 1 ≤ n ∧ n ≤ 400 ∧ SqT K H b (W.map V.int) ∧ W.length = n ∧ (∀ x ∈ W, x = 0 ∨ x = 1) ∧
  ∀ (c : Addr) (H' : Hp), Same H H' → H' c = some (.tup ((bitsOf n (imgs L W)).map V.int)) → Q (.ref c) H'
def tImg (K : PySem.W.Frag) : TE := tCall (spGoes K) [] E0 (tCons (tVar 0) (tCons (tIf (tTest (tOp rEq (tVar 4) (tC (V.int 1)))) (tVar 3) (tUn (rU fun i => .int (-i)) (tVar 3))) tNil))
def tPos : TE := tIf (tTest (tOp (rI0 fun i j => .bl (decide (j < i))) (tVar 5) (tC (V.int 0)))) (tC (V.int 1)) (tC (V.int 0))
end
end Toy

-- part: B1
namespace Toy
open PySem L2
theorem gD {L : List Int} {j : Nat} (h : j < L.length) : L.getD j 0 = L[j] := by rw [List.getD_eq_getElem?_getD, List.getElem?_eq_getElem h]; rfl
theorem absI_pos {x : Int} (h : 0 < x) : absI x = x := by unfold absI; rw [if_neg (by omega)]
theorem absI_neg' {x : Int} (h : ¬ 0 < x) (h1 : 1 ≤ absI x) : absI x = -x ∧ x < 0 := by
  unfold absI at h1 ⊢
  by_cases z : x < 0
  · rw [if_pos z]
    exact ⟨rfl, z⟩
  · rw [if_neg z] at h1
    omega
theorem gL_neg (L : List Int) {l : Int} (h : 1 ≤ absI l) : gL L (-l) = -(gL L l) := by
  unfold gL
  by_cases p : 0 < l
  · rw [if_neg (by omega), if_pos p, Int.neg_neg]
  · have := (absI_neg' p h).2
    rw [if_pos (by omega), if_neg p, Int.neg_neg]
theorem gL_nat (L : List Int) (j : Nat) : gL L (1 + (j : Int)) = L.getD j 0 := by
  unfold gL
  rw [if_pos (by omega), show (1 + (j : Int) - 1).toNat = j by omega]
theorem trn_of {n : Nat} {L : List Int} (hl : L.length = n) (hb : ∀ x ∈ L, 1 ≤ absI x ∧ absI x ≤ n) (nd : (L.map absI).Nodup) : Trn n L := by
  let S := (L.map absI).mergeSort fun a b => decide (a ≤ b)
  have pm : S.Perm (L.map absI) := List.mergeSort_perm _ _
  have so : S.Pairwise fun a b => decide (a ≤ b) = true := List.pairwise_mergeSort (le := fun a b : Int => decide (a ≤ b)) (fun a b c h1 h2 => decide_eq_true (Int.le_trans (of_decide_eq_true h1) (of_decide_eq_true h2))) (fun a b => (Int.le_total a b).elim (fun h => by rw [decide_eq_true h]; rfl) (fun h => by rw [decide_eq_true h, Bool.or_true])) _
  have e := (sorted_turn (n := n) (A := L.map absI) (by rw [List.length_map]; exact hl) pm (so.imp fun h => of_decide_eq_true h)).mpr ⟨fun x hx => by
    obtain ⟨i, hi, rfl⟩ := List.mem_map.mp hx
    exact hb i hi, nd⟩
  unfold Trn
  rw [← e]
  exact pm.symm
/-- a letter of one of n truths -/
def Lt (n : Nat) (l : Int) : Prop := 1 ≤ absI l ∧ absI l ≤ n
theorem Lt.nat {n j : Nat} (h : j < n) : Lt n (1 + (j : Int)) := by
  unfold Lt
  rw [absI_pos (by omega)]
  omega
theorem Lt.neg {n : Nat} {l : Int} (h : Lt n l) : Lt n (-l) := by
  unfold Lt at *
  rw [absI_neg]
  exact h
theorem Trn.lt {n : Nat} {L : List Int} (t : Trn n L) {l : Int} (h : Lt n l) : Lt n (gL L l) := gL_abs t h.1 h.2
/-- a letter is a truth's or its negative -/
theorem Lt.two {n : Nat} {l : Int} (h : Lt n l) : ∃ j : Nat, j < n ∧ (l = 1 + (j : Int) ∨ l = -(1 + (j : Int))) := by
  obtain ⟨h1, h2⟩ := h
  by_cases p : 0 < l
  · rw [absI_pos p] at h1 h2
    exact ⟨(l - 1).toNat, by omega, .inl (by omega)⟩
  · obtain ⟨e, z⟩ := absI_neg' p h1
    rw [e] at h1 h2
    exact ⟨(-l - 1).toNat, by omega, .inr (by omega)⟩
def joined (L M : List Int) : List Int := L.map (gL M)
theorem gL_joined {n : Nat} {L M : List Int} (t : Trn n L) {l : Int} (h : Lt n l) : gL (joined L M) l = gL M (gL L l) := by
  have ll := t.len
  obtain ⟨j, hj, e⟩ := h.two
  have hj' : j < L.length := by omega
  have main : gL (joined L M) (1 + (j : Int)) = gL M (gL L (1 + (j : Int))) := by
    rw [gL_nat, gL_nat, gD hj', gD (by unfold joined; rw [List.length_map]; exact hj')]
    unfold joined
    rw [List.getElem_map]
  rcases e with rfl | rfl
  · exact main
  · have a1 : 1 ≤ absI (1 + (j : Int)) := (Lt.nat hj).1
    rw [gL_neg _ a1, gL_neg _ a1, gL_neg _ (t.lt (Lt.nat hj)).1, main]
theorem trn_joined {n : Nat} {L M : List Int} (t : Trn n L) (u : Trn n M) : Trn n (joined L M) := by
  refine trn_of (by unfold joined; rw [List.length_map]; exact t.len) (fun x hx => ?_) (nd_gL u (fun l hl => t.bd hl) t.nd)
  obtain ⟨l, hl, rfl⟩ := List.mem_map.mp hx
  exact u.lt (t.bd hl)
theorem ext_gL {n : Nat} {X Y : List Int} (hx : X.length = n) (hy : Y.length = n) (h : ∀ l, Lt n l → gL X l = gL Y l) : X = Y := by
  refine List.ext_getElem (hx.trans hy.symm) fun j h1 h2 => ?_
  have := h _ (Lt.nat (n := n) (j := j) (by omega))
  rw [gL_nat, gL_nat, gD h1, gD h2] at this
  exact this
theorem onto {n : Nat} {Z : List Int} (t : Trn n Z) {x : Int} (h : Lt n x) : ∃ l, Lt n l ∧ gL Z l = x := by
  have hm : absI x ∈ Z.map absI := t.mem_iff.mpr (up_mem.mpr h)
  obtain ⟨z, hz, e⟩ := List.mem_map.mp hm
  obtain ⟨j, hj, rfl⟩ := List.getElem_of_mem hz
  have ll := t.len
  have lt : Lt n (1 + (j : Int)) := Lt.nat (by omega)
  have ez : Z[j] = x ∨ Z[j] = -x := by
    rw [absI_nat, absI_nat] at e
    omega
  rcases ez with e2 | e2
  · exact ⟨_, lt, by rw [gL_nat, gD hj, e2]⟩
  · exact ⟨_, lt.neg, by rw [gL_neg _ lt.1, gL_nat, gD hj, e2, Int.neg_neg]⟩
theorem inj_gL {n : Nat} {L : List Int} (t : Trn n L) {l m : Int} (hl : Lt n l) (hm : Lt n m) (e : gL L l = gL L m) : l = m := by
  by_cases h : absI l = absI m
  · have : l = m ∨ l = -m := by
      rw [absI_nat, absI_nat] at h
      omega
    rcases this with h2 | h2
    · exact h2
    · rw [h2, gL_neg _ hm.1] at e
      have := (t.lt hm).1
      have z : gL L m = 0 := by omega
      rw [z] at this
      unfold absI at this
      rw [if_neg (by omega)] at this
      omega
  · have nd := nd_gL (C := [l, m]) t (fun x hx => by
      simp only [List.mem_cons, List.not_mem_nil, or_false] at hx
      rcases hx with rfl | rfl
      · exact hl
      · exact hm) (by simpa using h)
    simp only [List.map_cons, List.map_nil, e] at nd
    simp at nd
/-! ### leading back -/
structure Bk (n : Nat) (L B : List Int) : Prop where
  len : B.length = n
  inv : ∀ l, Lt n l → gL B (gL L l) = l
theorem Bk.of {n : Nat} {L B : List Int} (t : Trn n L) (hl : B.length = n) (h : ∀ j : Nat, j < n → gL B (L.getD j 0) = 1 + (j : Int)) : Bk n L B := by
  refine ⟨hl, fun l hl' => ?_⟩
  obtain ⟨j, hj, e⟩ := hl'.two
  have main : gL B (gL L (1 + (j : Int))) = 1 + (j : Int) := by rw [gL_nat, h j hj]
  rcases e with rfl | rfl
  · exact main
  · rw [gL_neg _ (Lt.nat hj).1, gL_neg _ (t.lt (Lt.nat hj)).1, main]
theorem Bk.back {n : Nat} {L B : List Int} (b : Bk n L B) (t : Trn n L) {x : Int} (h : Lt n x) : Lt n (gL B x) ∧ gL L (gL B x) = x := by
  obtain ⟨l, hl, rfl⟩ := onto t h
  rw [b.inv l hl]
  exact ⟨hl, rfl⟩
theorem Bk.trn {n : Nat} {L B : List Int} (b : Bk n L B) (t : Trn n L) : Trn n B := by
  have get : ∀ j (h : j < B.length), gL B (1 + (j : Int)) = B[j] := fun j h => by rw [gL_nat, gD h]
  have lb := b.len
  refine trn_of b.len (fun x hx => ?_) (List.pairwise_iff_getElem.mpr fun i j hi hj hij => ?_)
  · obtain ⟨j, hj, rfl⟩ := List.getElem_of_mem hx
    rw [← get j hj]
    exact (b.back t (Lt.nat (by omega))).1
  · rw [List.length_map] at hi hj
    rw [List.getElem_map, List.getElem_map]
    intro e
    have e1 := (b.back t (Lt.nat (n := n) (j := i) (by omega))).2
    have e2 := (b.back t (Lt.nat (n := n) (j := j) (by omega))).2
    have b1 := (b.back t (Lt.nat (n := n) (j := j) (by omega))).1
    rw [get i hi] at e1
    rw [get j hj] at e2 b1
    have : B[i] = B[j] ∨ B[i] = -B[j] := by
      rw [absI_nat, absI_nat] at e
      omega
    rcases this with h | h
    · rw [h, e2] at e1
      omega
    · rw [h, gL_neg _ b1.1, e2] at e1
      omega
theorem Bk.uniq {n : Nat} {L B B' : List Int} (t : Trn n L) (b : Bk n L B) (b' : Bk n L B') : B = B' := ext_gL b.len b'.len fun x hx => by
  obtain ⟨l, hl, rfl⟩ := onto t hx
  rw [b.inv l hl, b'.inv l hl]
theorem gL_up {n : Nat} {l : Int} (h : Lt n l) : gL (up n) l = l := by
  obtain ⟨j, hj, e⟩ := h.two
  have main : gL (up n) (1 + (j : Int)) = 1 + (j : Int) := by
    rw [gL_nat, gD (by rw [up_len]; exact hj)]
    unfold up
    rw [List.getElem_map, List.getElem_range]
  rcases e with rfl | rfl
  · exact main
  · rw [gL_neg _ (Lt.nat hj).1, main]
theorem join_len {L M : List Int} : (joined L M).length = L.length := by unfold joined; rw [List.length_map]
theorem Bk.r {n : Nat} {L B : List Int} (t : Trn n L) (b : Bk n L B) : joined L B = up n := ext_gL (join_len.trans t.len) (up_len n) fun l hl => by rw [gL_joined t hl, b.inv l hl, gL_up hl]
theorem Bk.l {n : Nat} {L B : List Int} (t : Trn n L) (b : Bk n L B) : joined B L = up n := ext_gL (join_len.trans b.len) (up_len n) fun l hl => by rw [gL_joined (b.trn t) hl, (b.back t hl).2, gL_up hl]
theorem Bk.two {n : Nat} {L M B C : List Int} (t : Trn n L) (u : Trn n M) (b : Bk n L B) (c : Bk n M C) : Bk n (joined L M) (joined C B) := ⟨join_len.trans c.len, fun l hl => by
  rw [gL_joined (c.trn u) (by rw [gL_joined t hl]; exact u.lt (t.lt hl)), gL_joined t hl, c.inv _ (t.lt hl), b.inv l hl]⟩
theorem join_assoc {n : Nat} {L M N : List Int} (t : Trn n L) (u : Trn n M) : joined (joined L M) N = joined L (joined M N) := ext_gL (join_len.trans (join_len.trans t.len)) (join_len.trans t.len) fun l hl => by
  rw [gL_joined (trn_joined t u) hl, gL_joined t hl, gL_joined t hl, gL_joined u (t.lt hl)]
theorem set_same {G : List Int} {x v : Int} (h : Lt G.length x) : gL (G.set (absI x - 1).toNat (if x > 0 then v else -v)) x = v := by
  obtain ⟨h1, h2⟩ := h
  unfold gL
  by_cases p : x > 0
  · rw [if_pos p, if_pos p, absI_pos p, gD (by rw [List.length_set]; rw [absI_pos p] at h1 h2; omega), List.getElem_set_self]
  · obtain ⟨e, z⟩ := absI_neg' p h1
    rw [if_neg p, if_neg p, e, gD (by rw [List.length_set]; rw [e] at h1 h2; omega), List.getElem_set_self, Int.neg_neg]
theorem set_other {G : List Int} {x y z : Int} (hx : 1 ≤ absI x) (hy : 1 ≤ absI y) (n : absI y ≠ absI x) : gL (G.set (absI x - 1).toNat z) y = gL G y := by
  have key : ∀ k : Nat, k ≠ (absI x - 1).toNat → (G.set (absI x - 1).toNat z).getD k 0 = G.getD k 0 := fun k hk => by
    rw [List.getD_eq_getElem?_getD, List.getD_eq_getElem?_getD, List.getElem?_set_ne (Ne.symm hk)]
  unfold gL
  by_cases p : y > 0
  · rw [if_pos p, if_pos p, key]
    rw [absI_pos p] at hy n
    omega
  · have e := (absI_neg' p hy).1
    rw [if_neg p, if_neg p, key]
    rw [e] at hy n
    omega
/-! ### what holds -/
def hd (W : List Int) (l : Int) : Bool := decide (W.getD (absI l - 1).toNat 0 = if 0 < l then 1 else 0)
theorem bit_of {W : List Int} (hW : ∀ x ∈ W, x = 0 ∨ x = 1) {j : Nat} (h : j < W.length) : W.getD j 0 = 0 ∨ W.getD j 0 = 1 := by
  rw [gD h]
  exact hW _ (List.getElem_mem h)
theorem mem_imgs {n : Nat} {L W : List Int} (lW : W.length = n) (hW : ∀ x ∈ W, x = 0 ∨ x = 1) {x : Int} : x ∈ imgs L W ↔ ∃ l, Lt n l ∧ hd W l = true ∧ gL L l = x := by
  unfold imgs
  rw [List.mem_map]
  constructor
  · rintro ⟨i, hi, rfl⟩
    have hi := List.mem_range.mp hi
    have ea := lOf_abs W i
    refine ⟨_, ⟨by rw [ea]; omega, by rw [ea]; omega⟩, ?_, rfl⟩
    unfold hd
    rw [ea, show (1 + (i : Int) - 1).toNat = i by omega]
    rcases bit_of hW hi with e | e
    · have el : lOf W i = -(1 + (i : Int)) := by unfold lOf; rw [e, if_neg (by decide)]
      have p : ¬ (0 : Int) < -(1 + (i : Int)) := by omega
      rw [el, e, if_neg p]
      rfl
    · have el : lOf W i = 1 + (i : Int) := by unfold lOf; rw [e, if_pos rfl]
      have p : (0 : Int) < 1 + (i : Int) := by omega
      rw [el, e, if_pos p]
      rfl
  · rintro ⟨l, hl, h, rfl⟩
    obtain ⟨j, hj, e⟩ := hl.two
    refine ⟨j, List.mem_range.mpr (by omega), ?_⟩
    unfold hd at h
    have h := of_decide_eq_true h
    have el : lOf W j = l := by
      unfold lOf
      rcases e with rfl | rfl
      · rw [absI_pos (by omega), show (1 + (j : Int) - 1).toNat = j by omega, if_pos (by omega)] at h
        rw [if_pos h]
      · rw [absI_neg, absI_pos (by omega), show (1 + (j : Int) - 1).toNat = j by omega, if_neg (by omega)] at h
        rw [if_neg (by omega)]
    rw [el]
theorem bits_len (n : Nat) (I : List Int) : (bitsOf n I).length = n := by unfold bitsOf; rw [List.length_map, up_len]
theorem bits_01 (n : Nat) (I : List Int) : ∀ x ∈ bitsOf n I, x = 0 ∨ x = 1 := by
  unfold bitsOf
  intro x hx
  obtain ⟨k, _, rfl⟩ := List.mem_map.mp hx
  split
  · exact .inr rfl
  · exact .inl rfl
theorem bits_get {n : Nat} {I : List Int} {j : Nat} (h : j < n) : (bitsOf n I).getD j 0 = if (1 + (j : Int)) ∈ I then 1 else 0 := by
  rw [gD (by rw [bits_len]; exact h)]
  unfold bitsOf up
  rw [List.getElem_map, List.getElem_map, List.getElem_range]
theorem hd_bits {n : Nat} {I : List Int} (t : Trn n I) {x : Int} (h : Lt n x) : hd (bitsOf n I) x = decide (x ∈ I) := by
  obtain ⟨j, hj, e⟩ := h.two
  unfold hd
  rcases e with rfl | rfl
  · have p : (0 : Int) < 1 + (j : Int) := by omega
    rw [absI_pos (by omega), show (1 + (j : Int) - 1).toNat = j by omega, bits_get hj, if_pos p]
    by_cases m : (1 + (j : Int)) ∈ I
    · rw [if_pos m, decide_eq_true m]; rfl
    · rw [if_neg m, decide_eq_false m]; rfl
  · have p : ¬ (0 : Int) < -(1 + (j : Int)) := by omega
    rw [absI_neg, absI_pos (by omega), show (1 + (j : Int) - 1).toNat = j by omega, bits_get hj, if_neg p]
    by_cases m : (1 + (j : Int)) ∈ I
    · have nz : ¬ (-(1 + (j : Int)) ∈ I) := fun z => by
        have := same_abs t.nd m z (by rw [absI_neg])
        omega
      rw [if_pos m, decide_eq_false nz]
      rfl
    · have hm : (1 + (j : Int)) ∈ I.map absI := t.mem_iff.mpr (up_mem.mpr ⟨by omega, by omega⟩)
      obtain ⟨z, hz, ez⟩ := List.mem_map.mp hm
      have e2 : z = 1 + (j : Int) ∨ z = -(1 + (j : Int)) := by
        rw [absI_nat] at ez
        omega
      rcases e2 with rfl | rfl
      · exact absurd hz m
      · rw [if_neg m, decide_eq_true hz]; rfl
theorem bits_ext {n : Nat} {I J : List Int} (h : ∀ x, x ∈ I ↔ x ∈ J) : bitsOf n I = bitsOf n J := by
  unfold bitsOf
  refine List.map_congr_left fun k _ => ?_
  by_cases m : k ∈ I
  · rw [if_pos m, if_pos ((h k).mp m)]
  · rw [if_neg m, if_neg fun z => m ((h k).mpr z)]
theorem mem_twice {n : Nat} {L M W : List Int} (t : Trn n L) (lW : W.length = n) (hW : ∀ x ∈ W, x = 0 ∨ x = 1) {x : Int} : x ∈ imgs M (bitsOf n (imgs L W)) ↔ ∃ l, Lt n l ∧ hd W l = true ∧ gL M (gL L l) = x := by
  rw [mem_imgs (bits_len n _) (bits_01 n _)]
  constructor
  · rintro ⟨y, hy, h, rfl⟩
    rw [hd_bits (trn_imgs t lW) hy] at h
    obtain ⟨l, hl, h2, rfl⟩ := (mem_imgs lW hW).mp (of_decide_eq_true h)
    exact ⟨l, hl, h2, rfl⟩
  · rintro ⟨l, hl, h, rfl⟩
    exact ⟨_, t.lt hl, by rw [hd_bits (trn_imgs t lW) (t.lt hl)]; exact decide_eq_true ((mem_imgs lW hW).mpr ⟨l, hl, h, rfl⟩), rfl⟩
theorem bits_join {n : Nat} {L M W : List Int} (t : Trn n L) (lW : W.length = n) (hW : ∀ x ∈ W, x = 0 ∨ x = 1) : bitsOf n (imgs (joined L M) W) = bitsOf n (imgs M (bitsOf n (imgs L W))) := bits_ext fun x => by
  rw [mem_twice t lW hW, mem_imgs lW hW]
  constructor
  · rintro ⟨l, hl, h, rfl⟩
    exact ⟨l, hl, h, (gL_joined t hl).symm⟩
  · rintro ⟨l, hl, h, rfl⟩
    exact ⟨l, hl, h, gL_joined t hl⟩
theorem bits_back {n : Nat} {L B W : List Int} (t : Trn n L) (b : Bk n L B) (lW : W.length = n) (hW : ∀ x ∈ W, x = 0 ∨ x = 1) : bitsOf n (imgs B (bitsOf n (imgs L W))) = W := by
  refine List.ext_getElem ((bits_len n _).trans lW.symm) fun j h1 h2 => ?_
  have hj : j < n := by omega
  rw [← gD h1, ← gD h2, bits_get hj]
  have e : (1 + (j : Int)) ∈ imgs B (bitsOf n (imgs L W)) ↔ hd W (1 + (j : Int)) = true := by
    rw [mem_twice t lW hW]
    constructor
    · rintro ⟨l, hl, h, e⟩
      rw [b.inv l hl] at e
      rw [← e]
      exact h
    · intro h
      exact ⟨_, Lt.nat hj, h, b.inv _ (Lt.nat hj)⟩
  have hh : hd W (1 + (j : Int)) = decide (W.getD j 0 = 1) := by
    unfold hd
    rw [absI_pos (by omega), show (1 + (j : Int) - 1).toNat = j by omega, if_pos (by omega)]
  rw [hh, decide_eq_true_eq] at e
  rcases bit_of hW h2 with q | q
  · rw [if_neg (fun z => by have := e.mp z; omega), q]
  · rw [if_pos (e.mpr q), q]
theorem hd_led {n : Nat} {L W : List Int} (t : Trn n L) (lW : W.length = n) (hW : ∀ x ∈ W, x = 0 ∨ x = 1) {l : Int} (hl : Lt n l) : hd (bitsOf n (imgs L W)) (gL L l) = hd W l := by
  rw [hd_bits (trn_imgs t lW) (t.lt hl), Bool.eq_iff_iff, decide_eq_true_eq, mem_imgs lW hW]
  constructor
  · rintro ⟨m, hm, h, e⟩
    rw [← inj_gL t hm hl e]
    exact h
  · intro h
    exact ⟨l, hl, h, rfl⟩
theorem any_led {n : Nat} {L W C S : List Int} (t : Trn n L) (lW : W.length = n) (hW : ∀ x ∈ W, x = 0 ∨ x = 1) (hC : ∀ l ∈ C, Lt n l) (pm : S.Perm (C.map (gL L))) : S.any (hd (bitsOf n (imgs L W))) = C.any (hd W) := by
  rw [Bool.eq_iff_iff, List.any_eq_true, List.any_eq_true]
  constructor
  · rintro ⟨y, hy, h⟩
    obtain ⟨l, hl, rfl⟩ := List.mem_map.mp (pm.mem_iff.mp hy)
    exact ⟨l, hl, by rw [← hd_led t lW hW (hC l hl)]; exact h⟩
  · rintro ⟨l, hl, h⟩
    exact ⟨_, pm.mem_iff.mpr (List.mem_map.mpr ⟨l, hl, rfl⟩), by rw [hd_led t lW hW (hC l hl)]; exact h⟩
end Toy

-- part: B2
namespace Toy
open PySem L2
section
variable {P : Program} {w : World} {K : PySem.W.Frag} {mg : Str → Option Value} {base : Heap}
/-! ### still -/
abbrev sStill : Stmt := s_still
theorem scStill : FnScope ["many"] ["many"] (defScope sStill) := ⟨rfl, rfl, rfl, by decide +kernel, rfl, by decide +kernel, by decide +kernel⟩
def spStill : Sp := fun vs H Q _ => ∃ m, vs = [.int m] ∧ 1 ≤ m ∧ m ≤ 400 ∧ ∀ (a : Addr) (H' : Hp), Same H H' → H' a = some (.tup ((up m.toNat).map V.int)) → Q (.ref a) H'
theorem ok_still {f : Addr} {fd : FuncData} (F : Fun K "still" "still" sStill f fd) (B : Bl mg) : FnOk P w K mg base CX0 1 f fd ["many"] spStill := by
  refine F.ok scStill (fun vs H Q E h => ?_) (fun cdv A outer s H vs Q E hr h => ?_)
  · obtain ⟨m, rfl, _⟩ := h
    rfl
  · obtain ⟨m, rfl, m1, m4, q⟩ := h
    refine ⟨_, pss_one (ps_ret (pe_tupRg rfl (by rfl) B.tuple (prg_2 (by rfl) B.range pe_int (pe_op op_add (pv 0) pe_int)))), ?_⟩
    show tRet _ _ [some (.int m)] H
    refine ⟨_, rfl, m, 1, rfl, rfl, 1, m + 1, rfl, rfl, RgOk.of_le (by decide) (by omega) (by decide) (by omega), fun a ha => ?_⟩
    rw [up_rg m (by omega)]
    exact q a _ (Same.new ha) upd_same
/-! ### the table -/
def tabL (L : List Int) : List Int := (0 :: L) ++ L.reverse.map fun l => -l
theorem tab_at {n : Nat} {L : List Int} (ln : L.length = n) {l : Int} (h : Lt n l) : atI ((tabL L).map V.int) l = some (V.int (gL L l)) := by
  have lt : (tabL L).length = 2 * n + 1 := by
    unfold tabL
    rw [List.length_append, List.length_cons, List.length_map, List.length_reverse, ln]
    omega
  obtain ⟨j, hj, e⟩ := h.two
  have hj' : j < L.length := by omega
  unfold atI
  rw [List.length_map, lt]
  rcases e with rfl | rfl
  · have ei : ixN (2 * n + 1) (1 + (j : Int)) = some (1 + j) := by
      unfold ixN
      rw [if_pos (by omega), if_pos (by omega)]
      exact congrArg some (by omega)
    rw [ei]
    show ((tabL L).map V.int)[1 + j]? = _
    rw [List.getElem?_map, gL_nat, gD hj']
    unfold tabL
    rw [List.getElem?_append_left (by rw [List.length_cons]; omega), Nat.add_comm 1 j, List.getElem?_cons_succ, List.getElem?_eq_getElem hj']
    rfl
  · have ei : ixN (2 * n + 1) (-(1 + (j : Int))) = some (2 * n - j) := by
      unfold ixN
      rw [if_neg (by omega), if_pos (by omega)]
      exact congrArg some (by omega)
    rw [ei]
    show ((tabL L).map V.int)[2 * n - j]? = _
    rw [List.getElem?_map, gL_neg _ (Lt.nat hj).1, gL_nat, gD hj']
    unfold tabL
    have e2 : 2 * n - j - (0 :: L).length = n - 1 - j := by
      rw [List.length_cons, ln]
      omega
    rw [List.getElem?_append_right (by rw [List.length_cons]; omega), e2, List.getElem?_map, List.getElem?_reverse (by omega)]
    have e3 : L.length - 1 - (n - 1 - j) = j := by omega
    rw [e3, List.getElem?_eq_getElem hj']
    rfl
abbrev sTab : Stmt := s_table_of
abbrev nTab : List Str := ["turn", "letter"]
theorem scTab : FnScope nTab ["turn"] (defScope sTab) := ⟨rfl, rfl, rfl, by decide +kernel, rfl, by decide +kernel, by decide +kernel⟩
def spTab (K : PySem.W.Frag) : Sp := fun vs H Q _ => ∃ (a : Addr) (L : List Int), vs = [.ref a] ∧ SqT K H a (L.map V.int) ∧ L ≠ [] ∧ L.length ≤ 400 ∧ ∀ (b : Addr) (H' : Hp), Same H H' → H' b = some (.tup ((tabL L).map V.int)) → Q (.ref b) H'
def tNeg1 : TE := tUn (rU fun i => .int (-i)) (tVar 1)
theorem ok_tab {f : Addr} {fd : FuncData} (F : Fun K "table_of" "table_of" sTab f fd) (B : Bl mg) : FnOk P w K mg base CX0 1 f fd ["turn"] (spTab K) := by
  refine F.ok scTab (fun vs H Q E h => ?_) (fun cdv A outer s H vs Q E hr h => ?_)
  · obtain ⟨a, L, rfl, _⟩ := h
    rfl
  · obtain ⟨a, L, rfl, hs, ne, l4, q⟩ := h
    refine ⟨_, pss_one (ps_ret (pe_op op_catT (pe_op op_catT (pe_tup (pa_cons pe_int pa_nil)) (pv 0)) (pe_callTy call_tuple_of (by rfl) B.tuple (by decide +kernel) (pa_cons
        (pe_lc (own := [("letter", 1)]) (g := gName 1) (tt := tYes) (te := tNeg1) rfl scTab.nd (pi_tup (pe_revT (pv 0))) (blkOk_by (own := [("letter", 1)]) (N := nTab) (sc := defScope sTab) (by decide +kernel))
          (fun _ _ _ _ _ => pg_name (i := 1) scTab.nd rfl (Or.inl rfl)) (fun _ _ _ _ _ => pts_nil) (fun _ _ _ _ _ => pe_un un_neg (pv 1))) pa_nil)))), ?_⟩
    show tRet _ _ [some (.ref a), none] H
    walk_at "rd"
    refine ⟨by show 1 ≤ sizeLine; decide, fun p hp => ?_⟩
    have s1 : Same H (upd H p (.tup [V.int 0])) := Same.new hp
    have hp' : upd H p (.tup [V.int 0]) p = some (.tup [V.int 0]) := upd_same
    generalize upd H p (.tup [V.int 0]) = H1 at *
    have eZ : sizeLine = 16777216 := rfl
    have lne : L.map V.int ≠ [] := fun e => ne (List.map_eq_nil_iff.mp e)
    refine ⟨p, a, _, _, rfl, rfl, SqT.of hp', Same.sqt s1 hs, by decide, by rw [List.length_map, List.length_singleton]; omega, fun e => absurd e lne, fun _ p2 hp2 => ?_⟩
    have s2 : Same H1 (upd H1 p2 (.tup ([V.int 0] ++ L.map V.int))) := Same.new hp2
    have hp2' : upd H1 p2 (.tup ([V.int 0] ++ L.map V.int)) p2 = some (.tup ([V.int 0] ++ L.map V.int)) := upd_same
    generalize upd H1 p2 (.tup ([V.int 0] ++ L.map V.int)) = H2 at *
    have s12 := Same.trans s1 s2
    refine ⟨_, rfl, a, _, rfl, Same.sqt s12 hs, fun p3 hp3 => ?_⟩
    rw [← List.map_reverse]
    have s3 : Same H2 (upd H2 p3 (.tup (L.reverse.map V.int))) := Same.new hp3
    have hp3' : upd H2 p3 (.tup (L.reverse.map V.int)) p3 = some (.tup (L.reverse.map V.int)) := upd_same
    generalize upd H2 p3 (.tup (L.reverse.map V.int)) = H3 at *
    refine ⟨p3, rfl, ⟨_, SqT.of hp3'⟩, fun D hD => lc_tup (K := K) (a := p3) (xs := L.reverse.map V.int) (fun j Hj => Same H3 Hj ∧ Hj D = some (.lst (((L.reverse.take j).map fun l => -l).map V.int))) ⟨Same.new hD, upd_same⟩ (fun j Hj _ ⟨e, _⟩ => SqT.of (e _ _ hp3')) ?_ ?_⟩
    · rintro j x Hj hj ⟨ej, hDj⟩
      rw [List.getElem?_map] at hj
      cases ez : L.reverse[j]? with
      | none => rw [ez] at hj; cases hj
      | some z =>
      rw [ez] at hj
      cases hj
      have hjl : j < L.reverse.length := (List.getElem?_eq_some_iff.mp ez).1
      rw [List.length_reverse] at hjl
      refine ⟨rfl, yesT ?_⟩
      show tNeg1 [some (.ref a), some (.int z)] Hj _
      unfold tNeg1
      walk_at "rd"
      refine ⟨_, hDj, by rw [List.length_map, List.length_map, List.length_take]; exact small1000 (by omega), fun c o hc => ?_, ?_⟩
      · rw [upd_ne (ne_of_none hc hD)]
        exact ej c o hc
      · rw [upd_same, List.take_add_one, ez]
        simp only [Option.toList_some, List.map_append, List.map_cons, List.map_nil]
    rintro H5 ⟨s5, hD5⟩
    rw [List.length_map, List.take_length] at hD5
    walk_at "rd"
    refine ⟨D, _, rfl, .inl ⟨SqL.of hD5, fun p4 hp4 => ?_⟩⟩
    have s6 : Same H5 (upd H5 p4 (.tup ((L.reverse.map fun l => -l).map V.int))) := Same.new hp4
    have hp4' : upd H5 p4 (.tup ((L.reverse.map fun l => -l).map V.int)) p4 = some (.tup ((L.reverse.map fun l => -l).map V.int)) := upd_same
    generalize upd H5 p4 (.tup ((L.reverse.map fun l => -l).map V.int)) = H6 at *
    have s26 := Same.trans s3 (Same.trans s5 s6)
    have rne : (L.reverse.map fun l => -l).map V.int ≠ [] := fun e => ne (by simpa using e)
    refine ⟨p2, p4, _, _, rfl, rfl, SqT.of (s26 _ _ hp2'), SqT.of hp4', by simp, by simp only [List.length_append, List.length_map, List.length_reverse, List.length_singleton]; omega, fun e => absurd e rne, fun _ p5 hp5 => ?_⟩
    have e : [V.int 0] ++ L.map V.int ++ (L.reverse.map fun l => -l).map V.int = (tabL L).map V.int := by
      unfold tabL
      rw [List.map_append, List.map_cons]
      rfl
    rw [e]
    exact q p5 _ (Same.trans s12 (Same.trans s26 (Same.new hp5))) upd_same
abbrev nOn : List Str := ["turn", "table", "letter"]
def spOn (K : PySem.W.Frag) : Sp := fun vs H Q _ => ∃ (a b : Addr) (n : Nat) (L M : List Int), vs = [.ref a, .ref b] ∧ SqT K H a (L.map V.int) ∧ Trn n L ∧ n ≤ 400 ∧ SqT K H b ((tabL M).map V.int) ∧ M.length = n ∧ ∀ (c : Addr) (H' : Hp), Same H H' → H' c = some (.tup ((joined L M).map V.int)) → Q (.ref c) H'
def tTab (K : PySem.W.Frag) : TE := tOp (rIxT K) (tVar 1) (tVar 2)
/-! ### back -/
abbrev sLb : Stmt := s_led_back
abbrev nLb : List Str := ["turn", "goals", "truth", "letter"]
theorem scLb : FnScope nLb ["turn"] (defScope sLb) := ⟨rfl, rfl, rfl, by decide +kernel, rfl, by decide +kernel, by decide +kernel⟩
def spLb (K : PySem.W.Frag) : Sp := fun vs H Q _ => ∃ (a : Addr) (n : Nat) (L : List Int), vs = [.ref a] ∧ SqT K H a (L.map V.int) ∧ Trn n L ∧ n ≤ 400 ∧ ∀ (b : Addr) (B : List Int) (H' : Hp), Bk n L B → Same H H' → H' b = some (.tup (B.map V.int)) → Q (.ref b) H'
theorem ok_lb {f : Addr} {fd : FuncData} (F : Fun K "led_back" "led_back" sLb f fd) (B : Bl mg) : FnOk P w K mg base CX0 1 f fd ["turn"] (spLb K) := by
  refine F.ok scLb (fun vs H Q E h => ?_) (fun cdv A outer s H vs Q E hr h => ?_)
  · obtain ⟨a, n, L, rfl, _⟩ := h
    rfl
  · obtain ⟨a, n, L, rfl, hs, t, n4, q⟩ := h
    refine ⟨_, pss_cons (ps_set (i := 1) scLb.nd rfl (Or.inl rfl) (pe_callTy (T := "list") call_list_of (by rfl) B.list (by decide +kernel) (pa_cons (pv 0) pa_nil)))
      (pss_cons (ps_for PassesOwn.never rfl (pi_enumK (by rfl) B.enumerate (pa_cons (pv 0) pa_nil) pe_int) (pg_tup rfl (pgs_cons (pg_name (i := 2) scLb.nd rfl (Or.inl rfl)) (pgs_cons (pg_name (i := 3) scLb.nd rfl (Or.inl rfl)) pgs_nil)))
        (pss_one (ps_asg (pe_ifExp (pt_cmpR op_gt (pv 3) pe_int (nomark _)) (pv 2) (pe_un un_neg (pv 2))) (pg_sub (pv 1) (pe_op op_sub (pe_callB call_abs (by rfl) B.abs (by decide +kernel) (pa_cons (pv 3) pa_nil)) pe_int) set_list))))
      (pss_one (ps_ret (pe_callTy call_tuple_of (by rfl) B.tuple (by decide +kernel) (pa_cons (pv 1) pa_nil))))), ?_⟩
    show tSeq _ _ _ [some (.ref a), none, none, none] H
    have ll := t.len
    refine seq_gen (fun σ' H' => ∃ g, σ' = [some (.ref a), some (.ref g), none, none] ∧ Same H H' ∧ H g = none ∧ H' g = some (.lst (L.map V.int))) (fun nx hnx => ?_) ?_
    · exact ⟨_, rfl, a, _, rfl, .inr hs, fun g hg => hnx _ _ ⟨g, rfl, Same.new hg, hg, upd_same⟩⟩
    rintro σ' H1 ⟨g, rfl, s1, ng, hg⟩
    refine seq_gen (fun σ' H' => ∃ (l2 l3 : Option V) (G : List Int), σ' = [some (.ref a), some (.ref g), l2, l3] ∧ Same H H' ∧ H' g = some (.lst (G.map V.int)) ∧ Bk n L G) (fun nx hnx => ?_) ?_
    · refine ⟨_, rfl, a, L.map V.int, 1, rfl, rfl, Same.sqt s1 hs, by decide, by decide, ?_⟩
      refine for_it (walk_enumC (xs := L.map V.int) (c := 1)) (fun j σ Hj => ∃ (l2 l3 : Option V) (G : List Int), σ = [some (.ref a), some (.ref g), l2, l3] ∧ Same H Hj ∧ Hj g = some (.lst (G.map V.int)) ∧ G.length = n ∧ ∀ i : Nat, i < j → gL G (L.getD i 0) = 1 + (i : Int)) ⟨none, none, L, rfl, s1, hg, ll, fun i h => absurd h (Nat.not_lt_zero i)⟩ (fun j σ Hj _ ⟨_, _, _, _, e, _⟩ => Same.sqt e hs) ?_ ?_
      · rintro j x σ Hj Hk hj ⟨l2, l3, G, rfl, ej, hGj, lG, inv⟩ ⟨T, y, rfl, nT, rfl, hy⟩
        rw [List.length_map] at hj
        rw [List.getElem?_map, List.getElem?_eq_getElem hj] at hy
        cases hy
        have sT : Same Hj (upd Hj T (.tup [.int (1 + (j : Nat)), V.int L[j]])) := Same.new nT
        have hT : upd Hj T (.tup [.int (1 + (j : Nat)), V.int L[j]]) T = some (.tup [.int (1 + (j : Nat)), V.int L[j]]) := upd_same
        generalize upd Hj T (.tup [.int (1 + (j : Nat)), V.int L[j]]) = Hk at *
        refine ⟨T, _, rfl, SqT.of hT, rfl, _, _, rfl, _, _, rfl, rfl, ?_⟩
        show tAsg _ _ _ [some (.ref a), some (.ref g), some (.int (1 + (j : Nat))), some (.int L[j])] Hk
        have bj := t.bd (List.getElem_mem hj)
        have hGk := sT _ _ hGj
        have step : ∀ v : Int, v = (if L[j] > 0 then 1 + (j : Int) else -(1 + (j : Int))) → rSetL (.ref g) (.int (absI L[j] - 1)) (.int v) Hk fun H4 => ∃ (l2 l3 : Option V) (G : List Int), [some (V.ref a), some (.ref g), some (.int (1 + (j : Nat))), some (.int L[j])] = [some (.ref a), some (.ref g), l2, l3] ∧ Same H H4 ∧ H4 g = some (.lst (G.map V.int)) ∧ G.length = n ∧ ∀ i : Nat, i < j + 1 → gL G (L.getD i 0) = 1 + (i : Int) := by
          rintro v rfl
          obtain ⟨k, ek⟩ := Int.eq_ofNat_of_zero_le (by omega : 0 ≤ absI L[j] - 1)
          refine p_set hGk (j := k) (by rw [ek]; exact ixN_nat (by rw [List.length_map]; omega)) ?_
          refine ⟨_, _, G.set k (if L[j] > 0 then 1 + (j : Int) else -(1 + (j : Int))), rfl, fun c o hc => ?_, by rw [upd_same, List.map_set], by rw [List.length_set]; exact lG, fun i hi => ?_⟩
          · have hcg : c ≠ g := ne_of_none hc ng
            rw [upd_ne hcg]
            exact sT _ _ (ej c o hc)
          · have ek2 : k = (absI L[j] - 1).toNat := by omega
            rw [ek2]
            by_cases hij : i = j
            · subst hij
              rw [gD hj]
              exact set_same ⟨bj.1, by rw [lG]; exact bj.2⟩
            · have hil : i < L.length := by omega
              have bi := t.bd (List.getElem_mem hil)
              rw [gD hil, set_other bj.1 bi.1, ← gD hil]
              · exact inv i (by omega)
              · have pw := List.pairwise_iff_getElem.mp t.nd i j (by rw [List.length_map]; exact hil) (by rw [List.length_map]; exact hj) (by omega)
                rw [List.getElem_map, List.getElem_map] at pw
                exact pw
        unfold tAsg gSub
        walk_at "rd"
        by_cases hp : 0 < L[j]
        · rw [decide_eq_true hp]
          exact iteT (step _ (by rw [if_pos hp]))
        · rw [decide_eq_false hp]
          exact iteF (step _ (by rw [if_neg hp]))
      · rintro σ Hj ⟨l2, l3, G, rfl, ej, hGj, lG, inv⟩
        rw [List.length_map, ll] at inv
        exact hnx _ _ ⟨l2, l3, G, rfl, ej, hGj, Bk.of t lG inv⟩
    rintro σ' H2 ⟨l2, l3, G, rfl, s2, hG, bk⟩
    walk_at "rd"
    exact ⟨g, _, rfl, .inl ⟨SqL.of hG, fun b hb => q b G _ bk (Same.trans s2 (Same.new hb)) upd_same⟩⟩
def spThen (K : PySem.W.Frag) : Sp := fun vs H Q _ => ∃ n : Nat, 1 ≤ n ∧ n ≤ 400 ∧ ∃ (a b : Addr) (L M : List Int), vs = [.ref a, .ref b] ∧ SqT K H a (L.map V.int) ∧ Trn n L ∧ SqT K H b (M.map V.int) ∧ Trn n M ∧ ∀ (c : Addr) (H' : Hp), Same H H' → H' c = some (.tup ((joined L M).map V.int)) → Q (.ref c) H'
def spBk (K : PySem.W.Frag) : Sp := fun vs H Q _ => ∃ n : Nat, 1 ≤ n ∧ n ≤ 400 ∧ ∃ (a : Addr) (L : List Int), vs = [.ref a] ∧ SqT K H a (L.map V.int) ∧ Trn n L ∧ ∀ (b : Addr) (B : List Int) (H' : Hp), Bk n L B → Same H H' → H' b = some (.tup (B.map V.int)) → Q (.ref b) H'
end
end Toy

-- part: TS1
/-! sorted(xs): tuples of ints, of any lengths, any number of them -/
namespace TI
open PySem PySem.Spec PySem.Calls PyProof.Rows SrtO PySem.W
section
variable {prog : Program} {w : World} {A : Around} {E : Value → Shared → Prop} {s : Shared}
/-- v is a tuple of these numbers -/
def TupI (h : Heap) (v : Value) (k : List Int) : Prop := ∃ (a : Addr) (dd : Option Addr) (items : Array Value) (n : Nat) (sl : Array (Option Value)), v = .ref a ∧ h.get? a = some { cls := .type "tuple", dict := dd, data := .seq items n, slots := sl } ∧ IntsAre items.toList k
theorem TupI.keeps {h h' : Heap} {v : Value} {k : List Int} (x : TupI h v k) (q : ∀ b o, v = .ref b → h.get? b = some o → h'.get? b = some o) : TupI h' v k := by
  obtain ⟨a, dd, items, n, sl, e, g, i⟩ := x
  exact ⟨a, dd, items, n, sl, e, q _ _ e g, i⟩
theorem TupI.of {h : Heap} {a : Addr} {items : Array Value} {k : List Int} (t : IsTup h a items) (i : IntsAre items.toList k) : TupI h (.ref a) k := by
  obtain ⟨⟨cls, dd, data, sl⟩, ho, hc, n, hd⟩ := t
  simp only at hc hd
  subst hc hd
  exact ⟨a, dd, items, n, sl, rfl, ho, i⟩
theorem TupI.tup {h : Heap} {v : Value} {k : List Int} (x : TupI h v k) : ∃ (a : Addr) (items : Array Value), v = .ref a ∧ IsTup h a items ∧ IntsAre items.toList k := by
  obtain ⟨a, dd, items, n, sl, rfl, g, i⟩ := x
  exact ⟨a, items, rfl, ⟨_, g, rfl, n, rfl⟩, i⟩
theorem TupI.type {M : Model} {h : Heap} {v : Value} {k : List Int} (x : TupI h v k) : Looks M h (typeOf v) (.type "tuple") := by
  obtain ⟨a, dd, items, n, sl, rfl, g, i⟩ := x
  exact (Looks.ld g).andThen .now
/-- compared by tuple.__lt__ itself -/
theorem lt_one {v u : Value} {ns ms : List Int} {Q : Bool → Shared → Prop} (hu : A.units < cLine) (hv : TupI s.heap v ns) (hw : TupI s.heap u ms) (h : Q (HT.lexLt ns ms) s) : wpAny (model prog w) A (oneLt' true v u) Q E s := by
  obtain ⟨a, dd, items, n, sl, rfl, ga, ia⟩ := hv
  obtain ⟨b, dd2, items2, n2, sl2, rfl, gb, ib⟩ := hw
  rw [oneLt'_eq]
  simp only [if_true]
  refine wpAny_bind (wpAny_cRoomFor hu ?_)
  refine wpAny_bind (wpAny_callSpecialIfBound?_slot (T := "tuple") ⟨_, ga, rfl⟩ PySem.F.slot_tuple_lt (call_meets PySem.F.slot_tuple_lt ⟨_, ga, rfl⟩ PySem.F.entry_tuple_lt (PySem.F.args_tuple_lt_2 _ _) (HT.tuple_lt_ints a b items items2 n n2 dd dd2 sl sl2 ns ms ia ib) ⟨ga, gb, ?_⟩))
  exact wpAny_truthy_bool h
theorem lt_gen {v u : Value} {ns ms : List Int} {Q : Bool → Shared → Prop} (hu : A.units < cLine) (hv : TupI s.heap v ns) (hw : TupI s.heap u ms) (h : Q (HT.lexLt ns ms) s) : wpAny (model prog w) A (oneLt' false v u) Q E s := by
  obtain ⟨a, items, rfl, ta, ia⟩ := hv.tup
  obtain ⟨b, items2, rfl, tb, ib⟩ := hw.tup
  exact kat_one _ _ (HT.lt_tupInts ta tb ia ib hu h)
theorem kat_lex {fin : Bool} {Q : Bool → Shared → Prop} {m n : Nat} (hf : fin = decide (m < n)) : ∀ {vs us : List Value} {ns ms : List Int} (i : Nat), IntsAre vs ns → IntsAre us ms → ns.length + n = ms.length + m → Q (HT.lexLt ns ms) s → KatLex prog w A true fin Q (vs.zip us) i s
  | _, _, _, _, i, .nil, .nil, hl, q => by
    have : fin = false := by rw [hf]; exact decide_eq_false (by simp at hl; omega)
    refine kat_nil ?_
    rw [this]
    exact q
  | _, _, _, _, i, .nil, .cons b u hb, hl, q => by
    have : fin = true := by rw [hf]; exact decide_eq_true (by simp at hl; omega)
    refine kat_nil ?_
    rw [this]
    exact q
  | _, _, _, _, i, .cons a t ha, .nil, hl, q => by
    have : fin = false := by rw [hf]; exact decide_eq_false (by simp at hl; omega)
    refine kat_nil ?_
    rw [this]
    exact q
  | _, _, _, _, i, .cons a t ha, .cons b u hb, hl, q => by
    rw [List.zip_cons_cons]
    rw [HT.lexLt_cons] at q
    refine kat_cons (SeqAt.EqAt.int_int a t b u prog w _ _ ?_)
    refine kat_go (fun e => ?_) (fun e => ?_)
    · have ex : a = b := by simpa using e
      rw [if_pos ex] at q
      exact kat_yes (kat_lex hf (i + 1) ha hb (by simp only [List.length_cons] at hl; omega) q)
    · have ex : ¬ a = b := by simpa using e
      rw [if_neg ex] at q
      exact kat_no (TS.oneLt_ints _ q)
theorem lt_tup {v u : Value} {ns ms : List Int} {Q : Bool → Shared → Prop} (hv : TupI s.heap v ns) (hw : TupI s.heap u ms) (h : Q (HT.lexLt ns ms) s) : wpAny (model prog w) A (keyLt' (tuples' true) v u) Q E s := by
  obtain ⟨a, dd, items, n, sl, rfl, ga, ia⟩ := hv
  obtain ⟨b, dd2, items2, n2, sl2, rfl, gb, ib⟩ := hw
  refine kat_lt ga rfl gb rfl ?_
  have z1 : items.size = ns.length := by rw [← ia.length]; simp
  have z2 : items2.size = ms.length := by rw [← ib.length]; simp
  exact kat_lex (m := items.size) (n := items2.size) rfl 0 ia ib (by omega) h
/-- what stands first in each -/
theorem firsts {M : Model} {k : Value → List Int} : ∀ (vs : List Value) {Q : List (Option Value) → Shared → Prop}, (∀ v ∈ vs, TupI s.heap v (k v)) → (∀ fs : List (Option Value), (fs.map fun f => f.isSome) = (vs.map fun v => !(k v).isEmpty) → (∀ f ∈ fs, ∀ x, f = some x → ∃ i t, x = Value.int i t) → Q fs s) → wpAny M A (vs.mapM firstOfTuple') Q E s
  | [], _, _, h => by rw [List.mapM_nil]; exact wpAny_pure (h [] rfl fun _ z => nomatch z)
  | v :: vs, Q, t, h => by
    have tv := t v List.mem_cons_self
    obtain ⟨a, dd, items, n, sl, ev, g, ia⟩ := tv
    rw [List.mapM_cons]
    refine wpAny_bind ?_
    rw [kas_first_eq]
    subst ev
    refine wpAny_bind (Looks.here (show Looks M s.heap (typeOf (.ref a)) (.type "tuple") from (Looks.ld g).andThen .now) ?_)
    rw [if_neg (by first | decide | simp)]
    refine wpAny_bind (listItems_at g rfl (wpAny_pure ?_))
    refine wpAny_bind (firsts vs (fun u hu => t u (List.mem_cons_of_mem _ hu)) fun fs hl hf => wpAny_pure (h _ ?_ fun f hm x e => ?_))
    · rw [List.map_cons, List.map_cons, hl]
      congr 1
      have e0 : items[0]? = items.toList[0]? := by simp
      rw [e0]
      generalize k (.ref a) = kk at ia
      cases hi : items.toList with
      | nil =>
        rw [hi] at ia
        cases ia
        rfl
      | cons y r =>
        rw [hi] at ia
        cases ia
        rfl
    · rcases List.mem_cons.mp hm with rfl | hm
      · have e2 : items.toList[0]? = some x := by simpa using e
        generalize k (.ref a) = kk at ia
        cases hi : items.toList with
        | nil => rw [hi] at e2; cases e2
        | cons y r =>
          rw [hi] at e2 ia
          cases e2
          cases ia with
          | cons i t _ => exact ⟨_, _, rfl⟩
      · exact hf f hm x e
/-- by what such tuples are compared -/
def kd (vs : List Value) (k : Value → List Int) : SortKind := if (vs.all fun v => !(k v).isEmpty) = true then tuples' true else if ((vs[0]?.map fun v => !(k v).isEmpty).getD false) = true then general' else oneType'
theorem kind_of {vs : List Value} {k : Value → List Int} (h1 : vs ≠ []) (ht : ∀ v ∈ vs, TupI s.heap v (k v)) {Q : SortKind → Shared → Prop} (q : Q (kd vs k) s) : wpAny (model prog w) A (keyKind' vs.toArray) Q E s := by
  rw [kat_kind_eq, List.mapM_toArray, map_eq_pure_bind]
  refine wpAny_bind (wpAny_bind (firsts vs ht fun fs hl hf => wpAny_pure ?_))
  have hal : (fs.toArray.all fun x => x.isSome) = (vs.all fun v => !(k v).isEmpty) := by
    have : (fs.map fun f => f.isSome).all id = (vs.map fun v => !(k v).isEmpty).all id := by rw [hl]
    rw [List.all_map, List.all_map] at this
    simpa using this
  have hlen : fs.length = vs.length := by
    have := congrArg List.length hl
    rw [List.length_map, List.length_map] at this
    exact this
  have h0' : (fs.toArray[0]?.bind id).isSome = ((vs[0]?.map fun v => !(k v).isEmpty).getD false) := by
    cases fs with
    | nil =>
      cases vs with
      | nil => rfl
      | cons v vs => cases hl
    | cons f fs =>
      cases vs with
      | nil => cases hl
      | cons v vs =>
        have := (List.cons.inj hl).1
        simp only [List.getElem?_toArray, List.getElem?_cons_zero, Option.map_some, Option.getD_some, Option.bind_some, id_eq]
        exact this
  unfold kd at q
  by_cases hall : (fs.toArray.all fun x => x.isSome) = true
  · rw [if_pos hall]
    rw [hal] at hall
    rw [if_pos hall] at q
    refine wpAny_bind (wpAny_rule ?_)
    have hfm : (fs.toArray.filterMap id) = (fs.filterMap id).toArray := by simp
    rw [hfm, oneTypeOnly'_eq, List.mapM_toArray, map_eq_pure_bind]
    have hints : ∀ x ∈ fs.filterMap id, ∃ i t, x = Value.int i t := fun x hx => by
      obtain ⟨f, hm, e⟩ := List.mem_filterMap.mp hx
      exact hf f hm x e
    refine wpAny_bind (wpAny_bind (wpAny_bind (kas_mapM (r := .type "int") _ (fun v hv Q' hq => ?_) (wpAny_pure ?_))))
    · obtain ⟨i, t, rfl⟩ := hints v hv
      exact (show Looks (model prog w) s.heap (typeOf (.int i t)) (.type "int") from Looks.now).here hq
    · have hne : fs.filterMap id ≠ [] := by
        cases fs with
        | nil => rw [List.length_nil] at hlen; exact absurd (List.eq_nil_of_length_eq_zero hlen.symm) h1
        | cons f r =>
          cases f with
          | none =>
            rw [← hal] at hall
            simp at hall
          | some x => simp
      obtain ⟨f₁, fr, ef⟩ := List.exists_cons_of_ne_nil hne
      rw [ef]
      have hall2 : ((List.map (fun _ => Value.type "int") (f₁ :: fr)).toArray.all fun x => x == Value.type "int") = true := by
        simp only [List.all_toArray, List.all_map, List.all_eq_true]
        intro _ _
        rfl
      have h0 : (List.map (fun _ => Value.type "int") (f₁ :: fr)).toArray[0]? = some (Value.type "int") := by simp
      rw [h0]
      simp only [hall2, if_true]
      exact wpAny_pure (wpAny_pure q)
  · rw [if_neg hall]
    rw [hal] at hall
    rw [if_neg hall] at q
    by_cases h0 : (fs.toArray[0]?.bind id).isSome = true
    · rw [if_pos h0]
      rw [h0'] at h0
      rw [if_pos h0] at q
      exact wpAny_pure q
    · rw [if_neg h0]
      rw [h0'] at h0
      rw [if_neg h0] at q
      rw [oneTypeOnly'_eq, List.mapM_toArray, map_eq_pure_bind]
      refine wpAny_bind (wpAny_bind (wpAny_bind (kas_mapM (r := .type "tuple") _ (fun v hv Q' hq => ?_) (wpAny_pure ?_))))
      · exact Looks.here (ht v hv).type hq
      · obtain ⟨v₁, vr, ev⟩ := List.exists_cons_of_ne_nil h1
        rw [ev]
        have hall2 : ((List.map (fun _ => Value.type "tuple") (v₁ :: vr)).toArray.all fun x => x == Value.type "tuple") = true := by
          simp only [List.all_toArray, List.all_map, List.all_eq_true]
          intro _ _
          rfl
        have h0 : (List.map (fun _ => Value.type "tuple") (v₁ :: vr)).toArray[0]? = some (Value.type "tuple") := by simp
        rw [h0]
        simp only [hall2, if_true]
        exact wpAny_pure (wpAny_pure q)
theorem cmp_of {vs : List Value} {k : Value → List Int} (hu : A.units < cLine) (hv : ∀ v ∈ vs, TupI s.heap v (k v)) {κ : SortKind} (hκ : κ = tuples' true ∨ κ = general' ∨ κ = oneType') : Cmp prog w A s κ (fun p => p.1 ∈ vs) (lt2 fun v u => HT.lexLt (k v) (k u)) := by
  intro p q hp hq
  rcases hκ with rfl | rfl | rfl
  · exact lt_tup (Q := fun r s' => s' = s ∧ r = HT.lexLt (k p.1) (k q.1)) (E := fun _ _ => False) (hv p.1 hp) (hv q.1 hq) ⟨rfl, rfl⟩
  · exact lt_gen (Q := fun r s' => s' = s ∧ r = HT.lexLt (k p.1) (k q.1)) (E := fun _ _ => False) hu (hv p.1 hp) (hv q.1 hq) ⟨rfl, rfl⟩
  · exact lt_one (Q := fun r s' => s' = s ∧ r = HT.lexLt (k p.1) (k q.1)) (E := fun _ _ => False) hu (hv p.1 hp) (hv q.1 hq) ⟨rfl, rfl⟩
theorem sortable {a : Addr} {vs : List Value} {k : Value → List Int} (h2 : 2 ≤ vs.length) (hu : A.units < cLine) (hv : ∀ v ∈ vs, TupI s.heap v (k v)) (ha : ∀ v ∈ vs, v ≠ .ref a) : SortableO prog w A s a vs fun v u => HT.lexLt (k v) (k u) := by
  intro h' keep
  have hv' : ∀ v ∈ vs, TupI h' v (k v) := fun v hm => (hv v hm).keeps fun b o e g => keep b o (fun z => ha v hm (by rw [e, z])) g
  refine ⟨kd vs k, fun Q E hq => ?_, cmp_of (s := { s with heap := h' }) hu hv' ?_⟩
  · exact kind_of (s := { s with heap := h' }) (fun e => by rw [e] at h2; cases h2) hv' hq
  · unfold kd
    split
    · exact .inl rfl
    · split
      · exact .inr (.inl rfl)
      · exact .inr (.inr rfl)
end
end TI
namespace L2
open PySem PySem.Spec PyProof.Rows
/-- tuples of numbers at places -/
def TsAt (H : Hp) (bs : List Addr) (cs : List (List Int)) : Prop := Paired (fun (b : Addr) (c : List Int) => H b = some (.tup (c.map V.int))) bs cs
end L2

-- part: TS2
/-! sorted(d) of a dict with tuples of numbers as keys; sorted(xs) of a list of such tuples -/
namespace Toy
open PySem PySem.Spec PyProof.Rows L2
def intV : V → Int
  | .int i => i
  | _ => 0
/-- the numbers of the tuple at b -/
def ctOf (H : Hp) (b : Addr) : List Int := match H b with
  | some (.tup xs) => xs.map intV
  | _ => []
theorem ctOf_eq {H : Hp} {b : Addr} {c : List Int} (h : H b = some (.tup (c.map V.int))) : ctOf H b = c := by
  unfold ctOf
  rw [h]
  show (c.map V.int).map intV = c
  rw [List.map_map]
  exact (List.map_congr_left fun _ _ => rfl).trans (List.map_id c)
theorem TupsAt.ct {H : Hp} : ∀ {bs : List Addr} {cs : List (List Int)}, TupsAt H bs cs → bs.map (ctOf H) = cs
  | _, _, .nil => rfl
  | _, _, .cons h t => by rw [List.map_cons, ctOf_eq h, TupsAt.ct t]
theorem TupsAt.mem {H : Hp} : ∀ {bs : List Addr} {cs : List (List Int)}, TupsAt H bs cs → ∀ b ∈ bs, H b = some (.tup ((ctOf H b).map V.int))
  | _, _, .cons h t, b, hb => by
    rcases List.mem_cons.mp hb with rfl | hb
    · rw [ctOf_eq h]
      exact h
    · exact TupsAt.mem t b hb
theorem TupsAt.of_mem {H : Hp} : ∀ {bs : List Addr}, (∀ b ∈ bs, H b = some (.tup ((ctOf H b).map V.int))) → TupsAt H bs (bs.map (ctOf H))
  | [], _ => .nil
  | b :: bs, h => .cons (h b List.mem_cons_self) (TupsAt.of_mem fun x hx => h x (List.mem_cons_of_mem _ hx))
section
variable {X : Cx} {pins : List (Addr × Obj)} {σ : L2.St} {H : Hp} {s : Shared}
theorem tupI_of (I : Inv X pins σ H s) {b : Addr} {c : List Int} (h : H b = some (.tup (c.map V.int))) : TI.TupI s.heap (.ref b) c := by
  obtain ⟨_, its, r, t⟩ := (show ObjOk X.prog X.w H s.heap b (.tup (c.map V.int)) from I.hok b _ h)
  exact TI.TupI.of t (by simpa using intsAre_of r)
/-- what sorting gives, told by places -/
def SrtTo (H : Hp) (bs : List Addr) (Q : VK) : Prop := ∀ (bs' : List Addr) (p : Addr), bs'.Perm bs → bs'.Pairwise (fun x y => HT.lexLt (ctOf H y) (ctOf H x) = false) → H p = none → Q (.ref p) (upd H p (.lst (bs'.map V.ref)))
theorem out_refs {bs : List Addr} {out : List Value} {lt : Value → Value → Bool} (h2 : SrtO.Stb lt out (bs.map Value.ref)) : out = (out.map adO).map Value.ref ∧ (out.map adO).Perm bs := by
  refine ⟨ref_map fun u hm => ?_, ?_⟩
  · obtain ⟨t, _, e⟩ := List.mem_map.mp (h2.perm.mem_iff.mp hm)
    exact ⟨t, e.symm⟩
  · have p1 := h2.perm.map adO
    rw [ad_map] at p1
    exact p1
theorem cr_sortedTL (hu : X.A.units + 64 < cLine) : CallR X (.builtin "sorted") (fun vs H Q => ∃ (a : Addr) (bs : List Addr) (cs : List (List Int)), vs = [.ref a] ∧ SqL X.K H a (bs.map V.ref) ∧ TupsAt H bs cs ∧ SrtTo H bs Q) := by
  intro pins s σ H vs us Q I r h
  obtain ⟨a, bs, cs, rfl, hs, ts, q⟩ := h
  obtain ⟨its, rv, hl, hz⟩ := I.list hs
  rw [Vals.ref1 r]
  have ei := nts_of rv
  subst ei
  rw [List.length_map] at hz
  have hm := TupsAt.mem ts
  have hna : ∀ b ∈ bs, b < s.heap.objs.size := fun b hb => by
    obtain ⟨_, _, _, o, ho, _⟩ := (show ObjOk X.prog X.w H s.heap b (.tup ((ctOf H b).map V.int)) from I.hok b _ (hm b hb))
    exact Heap.lt_size ho
  refine SrtO.sorted_ord (NtL.swo_lexL fun u => ctOf H (adO u)) hl.isList (by rw [List.length_map]; exact hz) (fun h2 h₁ a' g1 g2 => TI.sortable (s := { s with heap := h₁ }) h2 (by show X.A.units + 1 + 1 < cLine; omega) (fun v hv => ?_) fun v hv => ?_) fun out h1 h2 => ?_
  · obtain ⟨b, hb, rfl⟩ := List.mem_map.mp hv
    exact (tupI_of I (hm b hb)).keeps fun c o _ e => (g2 c o e).2
  · obtain ⟨b, hb, rfl⟩ := List.mem_map.mp hv
    intro e
    obtain ⟨_, _, _, o, ho, _⟩ := (show ObjOk X.prog X.w H s.heap b (.tup ((ctOf H b).map V.int)) from I.hok b _ (hm b hb))
    exact (g2 b o ho).1 (Value.ref.inj e)
  · obtain ⟨eo, hp⟩ := out_refs h2
    obtain ⟨ep, he'⟩ := PyProof.Rows.sortedAll_at s.heap (bs.map Value.ref) out.toArray
    have hlen : ((out.map adO).map V.ref).length ≤ sizeLine := by
      rw [List.length_map, hp.length_eq]
      exact hz
    have rvo : Vals ((out.map adO).map V.ref) out := by
      have z := of_nts (out.map adO)
      rw [← eo] at z
      exact z
    exact ⟨.ref _, upd H (s.heap.objs.size + 1) (.lst ((out.map adO).map V.ref)), I.laid (t' := s.toks) (fun _ _ => PyProof.Rows.sortedAll_old) (Nat.le_succ _) ⟨hlen, out, ep, rvo, he'⟩, rfl, q _ _ hp (List.pairwise_map.mpr (h1.imp fun {x y} z => z)) (I.hok.fresh (Nat.le_succ _))⟩
theorem cr_sortedTD (hcalm : X.calm = true) (hu : X.A.units + 64 < cLine) : CallR X (.builtin "sorted") (fun vs H Q => ∃ (d : Addr) (kvs : List (List Key × V)) (cs : List (List Int)), vs = [.ref d] ∧ Rd H d (.dT kvs) ∧ kvs.map (·.1) = cs.map tkey ∧ ∀ bs, TupsAt H bs cs → SrtTo H bs Q) := by
  intro pins s σ H vs us Q I r h
  obtain ⟨d, kvs, cs, rfl, hd, hk, q⟩ := h
  obtain ⟨u, rfl, rx⟩ := vals1 r
  cases rx
  obtain ⟨z, hs, ks, pr, o, es, ep, ho, hx, hdt, he, hn⟩ := (show ObjOk X.prog X.w H s.heap d (.dT kvs) from hd.ok I.hok)
  have l1 : es.size = ks.length := size_of_entries he
  have l2 : kvs.length = ks.length := Paired.length pr
  have ts : TupsAt H (ks.map fun x => x.2.1) cs := tups_of_keys (isKeys_of pr) hk
  refine Calls.call_function_entry PyProof.Rows.kind_sorted PyProof.Rows.plain_sorted PyProof.Rows.entry_sorted (PyProof.Rows.args_sorted1 _) ?_
  unfold Builtin.«sorted»
  refine wpAny_bind (m := checkCount "sorted" 1 1 _) (wpAny_pure ?_)
  refine wpAny_bind (PySem.W.kdu_collect (A := X.A.in1) (kdl_raw hs hx hdt) (I.ok.hd hcalm) ho (by omega) fun h' tk acc' kp it => ?_)
  have ea : acc'.toList = ks.map fun x => Value.ref x.2.1 := by
    have hl : acc'.toList.length = ks.length := by rw [Array.length_toList, it.1]; exact l1
    apply List.ext_getElem?
    intro j
    rw [List.getElem?_map]
    cases hj : acc'.toList[j]? with
    | none =>
      have h1 := List.getElem?_eq_none_iff.mp hj
      rw [List.getElem?_eq_none (by omega)]
      all_goals rfl
    | some v =>
      obtain ⟨en, hen, hv⟩ := it.2 j v (by rw [← Array.getElem?_toList]; exact hj)
      have qe := entry_at he j
      rw [hen] at qe
      cases hb : ks[j]? with
      | none =>
        rw [hb] at qe
        exact nomatch (show some en = none from qe)
      | some b =>
        rw [hb] at qe
        have e2 : en = entryOfKey (tupleKind (mixKind X.prog X.w)) b := Option.some.inj qe
        rw [hv, e2]
        all_goals rfl
  have eb : acc'.toList = (ks.map fun x => x.2.1).map Value.ref := by rw [ea, List.map_map]; all_goals rfl
  generalize (ks.map fun x => x.2.1) = bs at *
  have I1 : Inv X pins σ H { s with heap := h', toks := tk } := I.kept kp
  have hlb : bs.length ≤ sizeLine := by
    have := congrArg List.length eb
    rw [Array.length_toList, List.length_map, it.1] at this
    omega
  rw [eb]
  refine wpAny_bind (wpAny_newList ?_ (by rw [List.length_map]; exact hlb))
  have hoL : (h'.push (seqObj "list" (bs.map Value.ref).toArray 0)).get? h'.objs.size = some (seqObj "list" (bs.map Value.ref).toArray 0) := Heap.get?_push_size _ rfl
  show wpAny _ _ _ _ _ { s with heap := h'.push (seqObj "list" (bs.map Value.ref).toArray 0), toks := tk }
  have hm := TupsAt.mem ts
  refine wpAny_bind (wpAny_holding (wpAny_call_entry PyProof.Rows.slot_list_sort ⟨_, hoL, rfl⟩ PyProof.Rows.entry_list_sort
    (SrtO.list_sort_ord (s := { s with heap := h'.push (seqObj "list" (bs.map Value.ref).toArray 0), toks := tk }) (NtL.swo_lexL fun u => ctOf H (adO u)) hoL (by rw [List.length_map]; exact hlb) (fun h2 => TI.sortable h2 (by show X.A.units + 1 + 1 < cLine; omega) (fun v hv => ?_) fun v hv => ?_) fun out h1 h2 => ⟨_, rfl, ?_⟩) (PyProof.Rows.args_list_sort _)))
  · obtain ⟨b, hb, rfl⟩ := List.mem_map.mp hv
    have tb : TI.TupI h' (.ref b) (ctOf H b) := tupI_of I1 (hm b hb)
    exact tb.keeps fun c o _ e => Heap.get?_push_of_some _ e
  · obtain ⟨b, hb, rfl⟩ := List.mem_map.mp hv
    intro e
    obtain ⟨_, _, _, o, ho, _⟩ := (show ObjOk X.prog X.w H h' b (.tup ((ctOf H b).map V.int)) from I1.hok b _ (hm b hb))
    exact Nat.ne_of_lt (Heap.lt_size ho) (Value.ref.inj e)
  · obtain ⟨eo, hp⟩ := out_refs h2
    obtain ⟨e', he'⟩ := PyProof.Rows.sortedHeap_at (vs := bs.map Value.ref) (out := out.toArray) hoL
    have hlen : ((out.map adO).map V.ref).length ≤ sizeLine := by
      rw [List.length_map, hp.length_eq]
      exact hlb
    have rvo : Vals ((out.map adO).map V.ref) out := by
      have z := of_nts (out.map adO)
      rw [← eo] at z
      exact z
    refine wpAny_pure ⟨_, rfl, .ref h'.objs.size, upd H h'.objs.size (.lst ((out.map adO).map V.ref)), I1.laid (t' := tk) (fun b u e => ?_) (Nat.le_refl _)
      (show ObjOk X.prog X.w _ _ _ (.lst ((out.map adO).map V.ref)) from ⟨hlen, out, e', rvo, he'⟩), rfl, q bs ts _ _ hp (List.pairwise_map.mpr (h1.imp fun {x y} z => z)) (I1.hok.fresh (Nat.le_refl _))⟩
    have hb : b < h'.objs.size := Heap.lt_size e
    rw [PyProof.Rows.sortedHeap_old (Nat.ne_of_lt hb) (by rw [size_push']; exact Nat.lt_succ_of_lt hb)]
    exact Heap.get?_push_of_some _ e
end
end Toy

-- part: NK1
/-! dicts whose keys are None and tuples (of numbers, texts, None, tuples): find and set, by values -/
namespace PySem
open Sem (wp)
section
variable {prog : Program} {w : World} {A : Around} {E : Value → Shared → Prop} {s : Shared}
/-- a key: None, or a tuple -/
def NV (h : Heap) (k : NestedKey) (u : Value) : Prop := NestedIs h k u ∧ k.depth ≤ 8 ∧ (u = .none ∨ ∃ b, u = .ref b)
def entV (w : World) (x : NestedKey × Value × Value) : DictEntry := ⟨x.1.hash w, x.2.1, x.2.2⟩
theorem entV_at {es : Array DictEntry} {xs : List (NestedKey × Value × Value)} (he : es.toList = xs.map (entV w)) (j : Nat) : es[j]? = (xs[j]?).map (entV w) := by
  rw [← Array.getElem?_toList, he, List.getElem?_map]
theorem entV_size {es : Array DictEntry} {xs : List (NestedKey × Value × Value)} (he : es.toList = xs.map (entV w)) : es.size = xs.length := by
  rw [← Array.length_toList, he, List.length_map]
theorem idxV_unique {xs : List (NestedKey × Value × Value)} (hn : (xs.map (·.1)).Nodup) {i j : Nat} {k : NestedKey} {p q : Value × Value} (hi : xs[i]? = some (k, p)) (hj : xs[j]? = some (k, q)) : i = j := by
  have hi' : (xs.map (·.1))[i]? = some k := by rw [List.getElem?_map, hi]; rfl
  have hj' : (xs.map (·.1))[j]? = some k := by rw [List.getElem?_map, hj]; rfl
  exact (List.getElem?_inj (List.getElem?_eq_some_iff.mp hi').1 hn).mp (hi'.trans hj'.symm)
theorem NV.mayTell {k : NestedKey} {u : Value} {stored : List Value} {Q : Bool → Shared → Prop} (hkey : NV s.heap k u) (hst : ∀ v ∈ stored, ∃ k', NV s.heap k' v) (h : Q false s) : wpAny (model prog w) A (tableMayTell u stored) Q E s := by
  unfold tableMayTell
  split
  · exact wpAny_pure h
  · refine wpAny_bind (quiet_key k u 8 s hkey.1 hkey.2.1 A E _ ?_)
    simp only [Bool.not_true, Bool.false_eq_true, if_false]
    refine wpAny_bind ?_
    refine wpAny_forIn_list _ (fun rest r s' => s' = s ∧ r = (none, ()) ∧ ∀ v ∈ rest, ∃ k', NV s.heap k' v) _ ?_ ?_ _ _ ⟨rfl, rfl, hst⟩
    · rintro x rest r s' ⟨rfl, rfl, hr⟩
      obtain ⟨k', hb⟩ := hr x List.mem_cons_self
      refine wpAny_bind (quiet_key k' x 8 _ hb.1 hb.2.1 A E _ ?_)
      simp only [Bool.not_true, Bool.false_eq_true, if_false]
      exact wpAny_pure ⟨rfl, rfl, fun v hv => hr v (List.mem_cons_of_mem _ hv)⟩
    · rintro r s' ⟨rfl, rfl, _⟩
      exact wpAny_pure h
theorem NV.eqBool {x y : NestedKey} {a b : Value} {Q : Bool → Shared → Prop} (hu : A.units + 8 < cLine) (hx : NV s.heap x a) (hy : NV s.heap y b) (h : Q (decide (x = y)) s) : wpAny (model prog w) A (PySem.eqBool a b) Q E s :=
  eqAt_key x y A s a b hx.1 hy.1 (by have := hx.2.1; omega) _ _ _ _ (by rw [← NestedKey.decide_eq]; exact h)
theorem dictFind_V {d : Addr} {u : Value} {o : Obj} {es ep} {xs : List (NestedKey × Value × Value)} {k : NestedKey} {Q : Option Nat → Shared → Prop} (hu : A.units + 8 < cLine) (hkey : NV s.heap k u)
    (ho : s.heap.get? d = some o) (hd : o.data = .dict es ep) (he : es.toList = xs.map (entV w)) (his : ∀ x ∈ xs, NV s.heap x.1 x.2.1) (hn : (xs.map (·.1)).Nodup)
    (hnone : (∀ (j : Nat) (p : Value × Value), xs[j]? ≠ some (k, p)) → Q none s) (hsome : ∀ (j : Nat) (p : Value × Value), xs[j]? = some (k, p) → Q (some j) s) :
    wpAny (model prog w) A (dictFind d u (k.hash w)) Q E s := by
  have hsz : es.size = xs.length := entV_size he
  have haskey : ∀ (j : Nat) (p : Value × Value), xs[j]? = some (k, p) → ((es[j]?.map (·.hash)) == some (k.hash w)) = true := by
    intro j p hj
    rw [entV_at he j, hj]
    simp [entV]
  have hmem : ∀ e ∈ es, ∃ x ∈ xs, e = entV w x := by
    intro e hin
    have : e ∈ xs.map (entV w) := he ▸ Array.mem_toList_iff.mpr hin
    obtain ⟨x, hx, rfl⟩ := List.mem_map.mp this
    exact ⟨x, hx, rfl⟩
  have hany : ¬ (es.any fun e => e.key == u && e.hash != k.hash w) = true := by
    rw [← Array.any_toList, List.any_eq_true]
    rintro ⟨e, hin, hc⟩
    obtain ⟨x, hx, rfl⟩ := hmem e (Array.mem_toList_iff.mp hin)
    simp only [entV, Bool.and_eq_true, beq_iff_eq, bne_iff_ne, ne_eq] at hc
    obtain ⟨hxa, hne⟩ := hc
    have := (his x hx).1
    rw [hxa] at this
    exact hne (by rw [NestedIs.inj _ _ _ this hkey.1])
  have hst : ∀ v ∈ (placesWithHash es.size (fun i => es[i]?.map (·.hash)) (k.hash w)).filterMap (fun i => es[i]?.map (·.key)), ∃ k', NV s.heap k' v := by
    intro v hv
    obtain ⟨i, _, hi⟩ := List.mem_filterMap.mp hv
    cases hei : es[i]? with
    | none => rw [hei] at hi; cases hi
    | some e =>
      rw [hei] at hi
      obtain rfl : e.key = v := by simpa using hi
      obtain ⟨x, hx, rfl⟩ := hmem e (Array.mem_of_getElem? hei)
      exact ⟨x.1, his x hx⟩
  have hkv : ∀ (x : Nat) (e : DictEntry), es[x]? = some e → ∃ k' u' v', xs[x]? = some (k', u', v') ∧ e = (⟨k'.hash w, u', v'⟩ : DictEntry) ∧ NV s.heap k' u' := by
    intro x e hx
    rw [entV_at he x] at hx
    cases hq : xs[x]? with
    | none => rw [hq] at hx; cases hx
    | some y =>
      rw [hq] at hx
      cases hx
      exact ⟨y.1, y.2.1, y.2.2, rfl, rfl, his y (List.mem_of_getElem? hq)⟩
  have done : ∀ (i : Nat), (∀ j, i ≤ j → j < es.size → ((es[j]?.map (·.hash)) == some (k.hash w)) = false) → (∀ j p, j < i → xs[j]? ≠ some (k, p)) → Q none s := by
    intro i hall hno
    refine hnone fun j p hj => ?_
    rcases Nat.lt_or_ge j i with h | h
    · exact hno j p h hj
    · have hjl : j < es.size := by
        rw [hsz]
        rcases Nat.lt_or_ge j xs.length with h' | h'
        · exact h'
        · rw [List.getElem?_eq_none h'] at hj; exact nomatch hj
      have := hall j h hjl
      rw [haskey j p hj] at this
      exact absurd this (by decide)
  -- the plain walk
  have plain : wpAny (model prog w) A (dictWalkPlain d u (k.hash w) es (placesWithHash es.size (fun i => es[i]?.map (·.hash)) (k.hash w))) Q E s := by
    unfold dictWalkPlain
    refine wpAny_bind ?_
    refine wpAny_forIn_list _
      (fun rest b s' => s' = s ∧ b = (none, ()) ∧ ∃ i, rest = (List.range' i (es.size - i)).filter (fun i => (es[i]?.map (·.hash)) == some (k.hash w)) ∧ i ≤ es.size ∧ ∀ j p, j < i → xs[j]? ≠ some (k, p)) _ ?_ ?_ _ _
      ⟨rfl, rfl, 0, by rw [placesWithHash, List.range_eq_range', Nat.sub_zero], Nat.zero_le _, fun _ _ h => absurd h (Nat.not_lt_zero _)⟩
    · rintro x rest b s' ⟨rfl, rfl, i, hr, hi, hno⟩
      obtain ⟨hix, hxn, hpx, hskip, hrest⟩ := filter_range'_cons _ _ _ _ _ hr.symm
      have hlt : x < es.size := by omega
      have hrest' : rest = (List.range' (x + 1) (es.size - (x + 1))).filter (fun i => (es[i]?.map (·.hash)) == some (k.hash w)) := by rw [hrest]; congr 2; omega
      obtain ⟨k', u', v', hq, hex, nv⟩ := hkv x _ (Array.getElem?_eq_getElem hlt)
      have hex' : es[x]? = some (⟨k'.hash w, u', v'⟩ : DictEntry) := by rw [Array.getElem?_eq_getElem hlt, hex]
      have hHx : ∀ j p, j < x → xs[j]? ≠ some (k, p) := fun j p hjx hj => by
        rcases Nat.lt_or_ge j i with h | h
        · exact hno j p h hj
        · have := hskip j h hjx
          rw [haskey j p hj] at this
          exact absurd this (by decide)
      have hstay : ¬ k' = k → ∀ j p, j < x + 1 → xs[j]? ≠ some (k, p) := fun hne j p hjx hj => by
        rcases Nat.lt_or_ge j x with h | h
        · exact hHx j p h hj
        · have hjx' : j = x := by omega
          subst hjx'
          rw [hq] at hj
          injection hj with hj
          injection hj with hj
          exact hne hj
      have hh : (k'.hash w == k.hash w) = true := by
        rw [hex'] at hpx
        simpa using hpx
      rw [hex']
      dsimp only
      rw [if_pos hh]
      refine wpAny_bind (wpAny_dictEpoch ho hd (wpAny_bind (NV.eqBool hu nv hkey (wpAny_bind (wpAny_dictEpoch ho hd ?_)))))
      rw [if_neg (by simp)]
      by_cases hkk : k' = k
      · rw [decide_eq_true hkk]
        subst hkk
        rw [if_pos rfl]
        exact wpAny_bind (wpAny_rule (wpAny_pure (wpAny_pure (hsome x _ hq))))
      · rw [decide_eq_false hkk, if_neg Bool.false_ne_true]
        exact wpAny_bind (wpAny_rule (wpAny_pure ⟨rfl, rfl, x + 1, hrest', hlt, hstay hkk⟩))
    · rintro b s' ⟨rfl, rfl, i, hr, hi, hno⟩
      refine wpAny_pure (done i (fun j h1 h2 => ?_) hno)
      have := List.filter_eq_nil_iff.mp hr.symm j (List.mem_range'_1.mpr ⟨h1, by omega⟩)
      simpa using this
  rcases hkey.2.2 with rfl | ⟨b, rfl⟩
  · unfold dictFind
    try with_reducible refine wpAny_holding ?_
    refine wpAny_bind (wpAny_dictEntries ho hd ?_)
    dsimp only
    by_cases hc : ((Value.none :: (placesWithHash es.size (fun i => es[i]?.map (·.hash)) (k.hash w)).filterMap (fun i => es[i]?.map (·.key))).all carriedByValue) = true
    · rw [if_pos hc]
      exact plain
    · rw [if_neg hc]
      by_cases hone : (((placesWithHash es.size (fun i => es[i]?.map (·.hash)) (k.hash w)).filterMap (fun i => es[i]?.map (·.key))) == [Value.none]) = true <;>
      (first | rw [if_pos hone] | rw [if_neg hone]) <;> (first | refine wpAny_bind (wpAny_pure ?_) | refine wpAny_bind (NV.mayTell hkey hst ?_)) <;> (
        rw [if_neg (by simp)]
        refine wpAny_bind ?_
        refine wpAny_forIn_list _
          (fun rest b s' => s' = s ∧ ∃ i hit, b = (none, hit) ∧ rest = (List.range' i (es.size - i)).filter (fun i => (es[i]?.map (·.hash)) == some (k.hash w)) ∧ i ≤ es.size ∧
            ((hit = none ∧ ∀ j p, j < i → xs[j]? ≠ some (k, p)) ∨ ∃ j p, hit = some j ∧ j < i ∧ xs[j]? = some (k, p))) _ ?_ ?_ _ _
          ⟨rfl, 0, none, rfl, by rw [placesWithHash, List.range_eq_range', Nat.sub_zero], Nat.zero_le _, .inl ⟨rfl, fun _ _ h => absurd h (Nat.not_lt_zero _)⟩⟩
        · rintro x rest b s' ⟨rfl, i, hit, rfl, hr, hi, hH⟩
          obtain ⟨hix, hxn, hpx, hskip, hrest⟩ := filter_range'_cons _ _ _ _ _ hr.symm
          have hlt : x < es.size := by omega
          have hrest' : rest = (List.range' (x + 1) (es.size - (x + 1))).filter (fun i => (es[i]?.map (·.hash)) == some (k.hash w)) := by rw [hrest]; congr 2; omega
          obtain ⟨k', u', v', hq, hex, nv⟩ := hkv x _ (Array.getElem?_eq_getElem hlt)
          have hex' : es[x]? = some (⟨k'.hash w, u', v'⟩ : DictEntry) := by rw [Array.getElem?_eq_getElem hlt, hex]
          have hHx : (hit = none ∧ ∀ j p, j < x → xs[j]? ≠ some (k, p)) ∨ ∃ j p, hit = some j ∧ j < x ∧ xs[j]? = some (k, p) := by
            rcases hH with ⟨h0, hno⟩ | ⟨j, p, h1, hji, hj⟩
            · refine .inl ⟨h0, fun j p hjx hj => ?_⟩
              rcases Nat.lt_or_ge j i with h | h
              · exact hno j p h hj
              · have := hskip j h hjx
                rw [haskey j p hj] at this
                exact absurd this (by decide)
            · exact .inr ⟨j, p, h1, by omega, hj⟩
          have hstay : ¬ k' = k → ((hit = none ∧ ∀ j p, j < x + 1 → xs[j]? ≠ some (k, p)) ∨ ∃ j p, hit = some j ∧ j < x + 1 ∧ xs[j]? = some (k, p)) := by
            intro hne
            rcases hHx with ⟨h0, hno⟩ | ⟨j, p, h1, hjx, hj⟩
            · refine .inl ⟨h0, fun j p hjx hj => ?_⟩
              rcases Nat.lt_or_ge j x with h | h
              · exact hno j p h hj
              · have hjx' : j = x := by omega
                subst hjx'
                rw [hq] at hj
                injection hj with hj
                injection hj with hj
                exact hne hj
            · exact .inr ⟨j, p, h1, by omega, hj⟩
          rw [hex']
          dsimp only
          by_cases hh : (k'.hash w == k.hash w) = true
          · rw [if_pos hh]
            refine wpAny_bind (wpAny_dictEpoch ho hd (wpAny_bind (NV.eqBool hu nv hkey (wpAny_bind (wpAny_dictEpoch ho hd ?_)))))
            show wpAny _ _ (if (ep != ep) = true then _ else _) _ E _
            rw [if_neg (by simp)]
            by_cases hkk : k' = k
            · rw [decide_eq_true hkk]
              subst hkk
              rcases hHx with ⟨rfl, _⟩ | ⟨j, p, _, hjx, hj⟩
              · first | rw [if_pos rfl] | skip
                simp only [Option.isSome_none, Bool.false_eq_true, if_false]
                first | refine wpAny_bind (wpAny_pure ?_) | skip
                refine wpAny_bind (wpAny_rule ?_)
                split
                · exact wpAny_pure (wpAny_pure (hsome x _ hq))
                · exact wpAny_pure ⟨rfl, x + 1, some x, rfl, hrest', hlt, .inr ⟨x, _, rfl, Nat.lt_succ_self x, hq⟩⟩
              · exact absurd (idxV_unique hn hj hq) (by omega)
            · rw [decide_eq_false hkk]
              simp only [Bool.false_eq_true, if_false]
              refine wpAny_bind (wpAny_rule ?_)
              first | rw [if_neg (by simp)] | skip
              first
                | exact wpAny_pure ⟨rfl, x + 1, hit, rfl, hrest', hlt, hstay hkk⟩
                | exact wpAny_bind (wpAny_pure (wpAny_pure ⟨rfl, x + 1, hit, rfl, hrest', hlt, hstay hkk⟩))
          · rw [if_neg hh]
            refine wpAny_pure ⟨rfl, x + 1, hit, rfl, hrest', hlt, hstay ?_⟩
            intro hkk
            rw [hkk] at hh; simp at hh
        · rintro b s' ⟨rfl, i, hit, rfl, hr, hi, hH⟩
          rcases hH with ⟨rfl, hno⟩ | ⟨j, p, rfl, _, hj⟩
          · refine wpAny_pure (done i (fun j h1 h2 => ?_) hno)
            have := List.filter_eq_nil_iff.mp hr.symm j (List.mem_range'_1.mpr ⟨h1, by omega⟩)
            simpa using this
          · exact wpAny_pure (hsome j p hj))
  · unfold dictFind
    try with_reducible refine wpAny_holding ?_
    refine wpAny_bind (wpAny_dictEntries ho hd ?_)
    dsimp only
    rw [if_neg (show ¬ ((Value.ref b :: (placesWithHash es.size (fun i => es[i]?.map (·.hash)) (k.hash w)).filterMap (fun i => es[i]?.map (·.key))).all carriedByValue) = true by simp [carriedByValue])]
    rw [if_neg hany]
    by_cases hone : (((placesWithHash es.size (fun i => es[i]?.map (·.hash)) (k.hash w)).filterMap (fun i => es[i]?.map (·.key))) == [Value.ref b]) = true <;>
    (first | rw [if_pos hone] | rw [if_neg hone]) <;> (first | refine wpAny_bind (wpAny_pure ?_) | refine wpAny_bind (NV.mayTell hkey hst ?_)) <;> (
      rw [if_neg (by simp)]
      refine wpAny_bind ?_
      refine wpAny_forIn_list _
        (fun rest b s' => s' = s ∧ ∃ i hit, b = (none, hit) ∧ rest = (List.range' i (es.size - i)).filter (fun i => (es[i]?.map (·.hash)) == some (k.hash w)) ∧ i ≤ es.size ∧
          ((hit = none ∧ ∀ j p, j < i → xs[j]? ≠ some (k, p)) ∨ ∃ j p, hit = some j ∧ j < i ∧ xs[j]? = some (k, p))) _ ?_ ?_ _ _
        ⟨rfl, 0, none, rfl, by rw [placesWithHash, List.range_eq_range', Nat.sub_zero], Nat.zero_le _, .inl ⟨rfl, fun _ _ h => absurd h (Nat.not_lt_zero _)⟩⟩
      · rintro x rest b s' ⟨rfl, i, hit, rfl, hr, hi, hH⟩
        obtain ⟨hix, hxn, hpx, hskip, hrest⟩ := filter_range'_cons _ _ _ _ _ hr.symm
        have hlt : x < es.size := by omega
        have hrest' : rest = (List.range' (x + 1) (es.size - (x + 1))).filter (fun i => (es[i]?.map (·.hash)) == some (k.hash w)) := by rw [hrest]; congr 2; omega
        obtain ⟨k', u', v', hq, hex, nv⟩ := hkv x _ (Array.getElem?_eq_getElem hlt)
        have hex' : es[x]? = some (⟨k'.hash w, u', v'⟩ : DictEntry) := by rw [Array.getElem?_eq_getElem hlt, hex]
        have hHx : (hit = none ∧ ∀ j p, j < x → xs[j]? ≠ some (k, p)) ∨ ∃ j p, hit = some j ∧ j < x ∧ xs[j]? = some (k, p) := by
          rcases hH with ⟨h0, hno⟩ | ⟨j, p, h1, hji, hj⟩
          · refine .inl ⟨h0, fun j p hjx hj => ?_⟩
            rcases Nat.lt_or_ge j i with h | h
            · exact hno j p h hj
            · have := hskip j h hjx
              rw [haskey j p hj] at this
              exact absurd this (by decide)
          · exact .inr ⟨j, p, h1, by omega, hj⟩
        have hstay : ¬ k' = k → ((hit = none ∧ ∀ j p, j < x + 1 → xs[j]? ≠ some (k, p)) ∨ ∃ j p, hit = some j ∧ j < x + 1 ∧ xs[j]? = some (k, p)) := by
          intro hne
          rcases hHx with ⟨h0, hno⟩ | ⟨j, p, h1, hjx, hj⟩
          · refine .inl ⟨h0, fun j p hjx hj => ?_⟩
            rcases Nat.lt_or_ge j x with h | h
            · exact hno j p h hj
            · have hjx' : j = x := by omega
              subst hjx'
              rw [hq] at hj
              injection hj with hj
              injection hj with hj
              exact hne hj
          · exact .inr ⟨j, p, h1, by omega, hj⟩
        rw [hex']
        dsimp only
        by_cases hh : (k'.hash w == k.hash w) = true
        · rw [if_pos hh]
          refine wpAny_bind (wpAny_dictEpoch ho hd (wpAny_bind (NV.eqBool hu nv hkey (wpAny_bind (wpAny_dictEpoch ho hd ?_)))))
          show wpAny _ _ (if (ep != ep) = true then _ else _) _ E _
          rw [if_neg (by simp)]
          by_cases hkk : k' = k
          · rw [decide_eq_true hkk]
            subst hkk
            rcases hHx with ⟨rfl, _⟩ | ⟨j, p, _, hjx, hj⟩
            · first | rw [if_pos rfl] | skip
              simp only [Option.isSome_none, Bool.false_eq_true, if_false]
              first | refine wpAny_bind (wpAny_pure ?_) | skip
              refine wpAny_bind (wpAny_rule ?_)
              split
              · exact wpAny_pure (wpAny_pure (hsome x _ hq))
              · exact wpAny_pure ⟨rfl, x + 1, some x, rfl, hrest', hlt, .inr ⟨x, _, rfl, Nat.lt_succ_self x, hq⟩⟩
            · exact absurd (idxV_unique hn hj hq) (by omega)
          · rw [decide_eq_false hkk]
            simp only [Bool.false_eq_true, if_false]
            refine wpAny_bind (wpAny_rule ?_)
            first | rw [if_neg (by simp)] | skip
            first
              | exact wpAny_pure ⟨rfl, x + 1, hit, rfl, hrest', hlt, hstay hkk⟩
              | exact wpAny_bind (wpAny_pure (wpAny_pure ⟨rfl, x + 1, hit, rfl, hrest', hlt, hstay hkk⟩))
        · rw [if_neg hh]
          refine wpAny_pure ⟨rfl, x + 1, hit, rfl, hrest', hlt, hstay ?_⟩
          intro hkk
          rw [hkk] at hh; simp at hh
      · rintro b s' ⟨rfl, i, hit, rfl, hr, hi, hH⟩
        rcases hH with ⟨rfl, hno⟩ | ⟨j, p, rfl, _, hj⟩
        · refine wpAny_pure (done i (fun j h1 h2 => ?_) hno)
          have := List.filter_eq_nil_iff.mp hr.symm j (List.mem_range'_1.mpr ⟨h1, by omega⟩)
          simpa using this
        · exact wpAny_pure (hsome j p hj))
end
end PySem

-- part: NK2
/-! dicts whose keys are None or tuples of numbers, and all of whose values are True -/
namespace L2
open PySem PySem.Spec PyProof.Rows
abbrev NKey := Option (List Int) × Addr
def nkK : Option (List Int) → NestedKey
  | none => .none
  | some c => .tup (c.map .num)
theorem nkK_inj : ∀ {a b : Option (List Int)}, nkK a = nkK b → a = b
  | none, none, _ => rfl
  | none, some _, h => by cases h
  | some _, none, h => by cases h
  | some a, some b, h => by
    have h2 : a.map NestedKey.num = b.map NestedKey.num := NestedKey.tup.inj h
    have : a = b := by
      clear h
      induction a generalizing b with
      | nil => cases b with
        | nil => rfl
        | cons _ _ => cases h2
      | cons x a ih => cases b with
        | nil => cases h2
        | cons y b =>
          rw [List.map_cons, List.map_cons] at h2
          injection h2 with h3 h4
          injection h3 with h3
          rw [h3, ih b h4]
    rw [this]
def nkU : NKey → Value
  | (none, _) => .none
  | (some _, b) => .ref b
def nkV : NKey → V
  | (none, _) => .non
  | (some _, b) => .ref b
theorem nk_rel (x : NKey) : RelV (nkV x) (nkU x) := by
  obtain ⟨o, b⟩ := x
  cases o <;> rfl
def nkE (w : World) (x : NKey) : DictEntry := entV w (nkK x.1, nkU x, .bool true)
/-- the dict at a: these keys, in this order -/
def DNo (w : World) (a : Addr) (ks : List NKey) : HO := .ext fun h => ks.length ≤ sizeLine ∧ (a == sysModules) = false ∧ ∃ o es ep, h.get? a = some o ∧ o.ExactDict ∧ o.data = .dict es ep ∧ es.toList = ks.map (nkE w) ∧ (ks.map (·.1)).Nodup
/-- the key stands -/
def NKAt (H : Hp) (x : NKey) : Prop := x.1 = none ∨ ∃ c, x.1 = some c ∧ H x.2 = some (.tup (c.map V.int))
theorem NKAt.keep {H H' : Hp} {x : NKey} (h : NKAt H x) (k : ∀ c, H x.2 = some (.tup c) → H' x.2 = some (.tup c)) : NKAt H' x := by
  rcases h with h | ⟨c, h1, h2⟩
  · exact .inl h
  · exact .inr ⟨c, h1, k _ h2⟩
def addN (ks : List NKey) (x : NKey) : List NKey := if x.1 ∈ ks.map (·.1) then ks else ks ++ [x]
theorem addN_len (ks : List NKey) (x : NKey) : (addN ks x).length ≤ ks.length + 1 := by
  unfold addN
  split
  · omega
  · rw [List.length_append]
    exact Nat.le_refl _
def PutN (w : World) (H : Hp) (d : Addr) (y v : V) (H' : Hp) : Prop := ∃ ks x, H d = some (DNo w d ks) ∧ (∀ z ∈ ks, NKAt H z) ∧ NKAt H x ∧ y = nkV x ∧ v = .bl true ∧ ks.length < sizeLine ∧ H' = upd H d (DNo w d (addN ks x))
theorem nestedAll_ints {h : Heap} : ∀ {c : List Int} {its : List Value}, Vals (c.map V.int) its → NestedAll h (c.map .num) its
  | [], _, r => by cases r; exact .nil
  | i :: c, _, r => by
    cases r with
    | cons r1 r2 =>
      obtain ⟨t, rfl⟩ := r1
      exact .cons (.int i t) (nestedAll_ints r2)
theorem depth_nums : ∀ c : List Int, NestedKey.depthAll (c.map .num) = 0
  | [] => rfl
  | _ :: c => by
    rw [List.map_cons, NestedKey.depthAll, depth_nums c]
    rfl
section
variable {X : Cx} {pins : List (Addr × Obj)} {σ : St} {H : Hp} {s : Shared}
theorem NKAt.nv (I : Inv X pins σ H s) {x : NKey} (h : NKAt H x) : NV s.heap (nkK x.1) (nkU x) := by
  obtain ⟨o, b⟩ := x
  rcases h with h | ⟨c, h1, h2⟩
  · cases h
    exact ⟨.none, Nat.zero_le _, .inl rfl⟩
  · cases h1
    obtain ⟨_, its, r, ob, ho, hc, n, hd⟩ := (show ObjOk X.prog X.w H s.heap b (.tup (c.map V.int)) from I.hok b _ h2)
    refine ⟨.tup ho hc hd (by simpa using nestedAll_ints r), ?_, .inr ⟨b, rfl⟩⟩
    show NestedKey.depth (.tup _) ≤ 8
    rw [NestedKey.depth, depth_nums]
    decide
theorem dn_empty {P : Program} {w : World} {H : Hp} (h : Heap) (hb : sysModules < h.objs.size) : ObjOk P w H (h.push { cls := .type "dict", data := .dict #[] }) h.objs.size (DNo w h.objs.size []) :=
  ⟨⟨Nat.zero_le _, beq_eq_false_iff_ne.mpr (Ne.symm (Nat.ne_of_lt hb)), _, #[], 0, Heap.get?_push_size _ rfl, ⟨rfl, rfl, rfl⟩, rfl, rfl, List.nodup_nil⟩, ⟨_, Heap.get?_push_size _ rfl⟩,
    fun h1 h2 ⟨z1, z2, o, es, ep, z3, z4⟩ k => ⟨z1, z2, o, es, ep, k _ z3, z4⟩⟩
theorem putN_set {H' : Hp} {E : Value → Shared → Prop} {D : Addr} {y v : V} {u r : Value} {Q : Unit → Shared → Prop} (hu : X.A.units + 9 < cLine) (I : Inv X pins σ H s) (g : PutN X.w H D y v H') (ry : RelV y u) (rv : RelV v r)
    (h : ∀ s', Inv X pins σ H' s' → Q () s') : wpAny (model X.prog X.w) X.A (dictSet D u r) Q E s := by
  obtain ⟨ks, x, hD, hz, hx, rfl, rfl, hl, rfl⟩ := g
  have eu : u = nkU x := by
    obtain ⟨o, b⟩ := x
    cases o <;> exact ry
  have er : r = .bool true := rv
  subst eu er
  obtain ⟨⟨h1, h2, o, es, ep, ho, hc, hd, he, hn⟩, _, _⟩ := (show ObjOk X.prog X.w H s.heap D (DNo X.w D ks) from I.hok D _ hD)
  have nv := hx.nv I
  have his : ∀ q ∈ ks.map (fun x => (nkK x.1, nkU x, Value.bool true)), NV s.heap q.1 q.2.1 := fun q hq => by
    obtain ⟨z, hzk, rfl⟩ := List.mem_map.mp hq
    exact (hz z hzk).nv I
  have he' : es.toList = (ks.map (fun x => (nkK x.1, nkU x, Value.bool true))).map (entV X.w) := by rw [he, List.map_map]; rfl
  have hn' : ((ks.map (fun x => (nkK x.1, nkU x, Value.bool true))).map (·.1)).Nodup := by
    rw [List.map_map]
    rw [show ((fun x => x.1) ∘ fun (x : NKey) => (nkK x.1, nkU x, Value.bool true)) = nkK ∘ (fun x : NKey => x.1) from rfl, ← List.map_map]
    exact List.pairwise_map.mpr (hn.imp fun {a b} h e => h (nkK_inj e))
  have wr : ∀ {h' : Heap} {t' : Nat} {ks' : List NKey}, Heap.SameBut D s.heap h' → ObjOk X.prog X.w (upd H D (DNo X.w D ks')) h' D (DNo X.w D ks') → Inv X pins σ (upd H D (DNo X.w D ks')) { s with heap := h', toks := t' } := fun {h' t' ks'} sb ok => by
    obtain ⟨_, oo, _⟩ := id ok
    exact d_write I (by rw [hD]; exact True.intro) sb oo ok
  unfold dictSet
  try with_reducible refine wpAny_holding ?_
  refine wpAny_bind (pyHash_key _ _ _ _ _ nv.1 (by have := nv.2.1; omega) ?_)
  unfold dictSetHashed
  try with_reducible refine wpAny_holding ?_
  refine wpAny_bind (dictFind_V (s := { s with toks := s.toks + (nkK x.1).draws }) (by omega) nv ho hd he' his hn' ?_ ?_)
  · intro hno
    have nm : x.1 ∉ ks.map (·.1) := fun hm => by
      obtain ⟨z, hz, e⟩ := List.mem_map.mp hm
      obtain ⟨j, hj⟩ := List.getElem?_of_mem hz
      exact hno j (nkU z, .bool true) (by rw [List.getElem?_map, hj, ← e]; rfl)
    have ea : addN ks x = ks ++ [x] := by unfold addN; rw [if_neg nm]
    rw [ea] at h
    refine wpAny_bind (wpAny_rule (wpAny_updateDictKeys (hz := by have e := entV_size he'; rw [List.length_map] at e; omega) (s := { s with toks := s.toks + (nkK x.1).draws }) ho hd (h _ (wr (Heap.SameBut.update ..) ?_))))
    refine ⟨⟨by rw [List.length_append]; exact hl, h2, _, _, ep + 1, Heap.get?_update_self _ ho (Obj.isFreed_of_dict (Obj.data_mapDictKeys hd _)), hc.mapDictKeys _, Obj.data_mapDictKeys hd _, ?_, ?_⟩, ⟨_, Heap.get?_update_self _ ho (Obj.isFreed_of_dict (Obj.data_mapDictKeys hd _))⟩, fun h1 h2 ⟨z1, z2, o, es, ep, z3, z4⟩ k => ⟨z1, z2, o, es, ep, k _ z3, z4⟩⟩
    · rw [List.map_append, ← he]
      simp [nkE, entV]
    · rw [List.map_append, List.nodup_append]
      refine ⟨hn, by simp, ?_⟩
      intro a ha b hb
      simp only [List.map_cons, List.map_nil, List.mem_singleton] at hb
      subst hb
      exact fun e => nm (e ▸ ha)
  · intro j p hj
    have hm : x.1 ∈ ks.map (·.1) := by
      rw [List.getElem?_map] at hj
      cases hq : ks[j]? with
      | none => rw [hq] at hj; cases hj
      | some z =>
        rw [hq] at hj
        injection hj with hj
        injection hj with hj1 hj2
        rw [← nkK_inj hj1]
        exact List.mem_map.mpr ⟨z, List.mem_of_getElem? hq, rfl⟩
    have ea : addN ks x = ks := by unfold addN; rw [if_pos hm]
    rw [ea] at h
    refine wpAny_bind (wpAny_rule (wpAny_bind (wpAny_updateDict (s := { s with toks := s.toks + (nkK x.1).draws }) ho hd (wpAny_point (h _ (wr (Heap.SameBut.update ..) ?_))))))
    refine ⟨⟨h1, h2, _, _, ep, Heap.get?_update_self _ ho (Obj.isFreed_of_dict (Obj.data_mapDict hd _)), hc.mapDict _, Obj.data_mapDict hd _, ?_, hn⟩, ⟨_, Heap.get?_update_self _ ho (Obj.isFreed_of_dict (Obj.data_mapDict hd _))⟩, fun h1 h2 ⟨z1, z2, o, es, ep, z3, z4⟩ k => ⟨z1, z2, o, es, ep, k _ z3, z4⟩⟩
    rw [← he]
    have e : ∀ (i : Nat) (e : DictEntry), es.toList[i]? = some e → e.val = Value.bool true := fun i e q => by
      rw [he, List.getElem?_map] at q
      cases hq : ks[i]? with
      | none => rw [hq] at q; cases q
      | some z => rw [hq] at q; cases q; rfl
    obtain ⟨l⟩ := es
    have : (l.modify j fun e => { e with val := Value.bool true }) = l := by
      refine List.ext_getElem? fun i => ?_
      rw [List.getElem?_modify]
      by_cases hij : j = i
      · subst hij
        cases q : l[j]? with
        | none => rfl
        | some en =>
          have := e j en q
          obtain ⟨a, b, c⟩ := en
          simp only at this
          rw [this]
          simp
      · simp [hij]
    simpa using this
def tDcX (o : Addr → HO) (Pt : Hp → Addr → V → V → Hp → Prop) (wi : TI) (g : TG) (tt : TT) (tk tv : TE) (vs : List Nat) : TE := fun σ H Q => wi σ H fun J H1 => ∀ D, H1 D = none → ∃ W : Nat → Nat → Hp → Prop, (∃ m, W 0 m (upd H1 D (o D))) ∧ ∀ i m H, W i m H →
  (J.stop i H ∧ Q (.ref D) H) ∨ (J.go i H ∧ ∃ Nx : Hp → Prop, (∀ H', Nx H' → ∃ m', m' < m ∧ W (i + 1) m' H') ∧ ∀ x H', J.yld i H x H' → g x (wipe σ vs) H' fun σ2 H2 => wipe σ2 vs = wipe σ vs ∧ tt σ2 H2 fun b H3 =>
    if b = true then tk σ2 H3 fun y H4 => tv σ2 H4 fun z H5 => ∃ H6, Pt H5 D y z H6 ∧ Nx H6 else Nx H3)
/-- what a dict comprehension's dict must answer: the empty one stands, and what is put is put -/
structure PutR (P : Program) (w : World) (A : Around) (o : Addr → HO) (Pt : Hp → Addr → V → V → Hp → Prop) : Prop where
  bare : ∀ (H : Hp) (h : Heap), sysModules < h.objs.size → ObjOk P w H (h.push { cls := .type "dict", data := .dict #[] }) h.objs.size (o h.objs.size)
  put : ∀ (X : Cx) (pins : List (Addr × Obj)) (σ : St) (H H' : Hp) (s : Shared) (E : Value → Shared → Prop) (D : Addr) (y v : V) (u r : Value) (Q : Unit → Shared → Prop), X.prog = P → X.w = w → X.A = A → Inv X pins σ H s → Pt H D y v H' → RelV y u → RelV v r → (∀ s', Inv X pins σ H' s' → Q () s') → wpAny (model X.prog X.w) X.A (dictSet D u r) Q E s
theorem dcX_core {pins : List (Addr × Obj)} {s : Shared} {σ : St} {H : Hp} {Q : VK} {pos' : Pos} {use : Option (Value → Sem Unit)} {Qf : Value → Shared → Prop} {o : Addr → HO} {Pt : Hp → Addr → V → V → Hp → Prop} (R : PutR X.prog X.w X.A o Pt) {kx vx tg iter : Expr} {ifs : List Expr} {scope : Scope} {own : List (Str × Nat)} {pos : Pos} {wi : TI} {g : TG} {tt : TT} {tk tv : TE} (I : Inv X pins σ H s) (hc : X.calm = true) (hN : X.N.Nodup) (hi : PI X tg iter wi) (ok : BlkOk X.N X.env.scope scope own)
    (hg : ∀ (s : Shared) (H : Hp) (C : Addr) (cl : List (Str × Addr)) (fp : List Addr), PG (X.blk s H scope (compEnvC scope cl C X.env) fp) tg g) (ht : ∀ (s : Shared) (H : Hp) (C : Addr) (cl : List (Str × Addr)) (fp : List Addr), PTs (X.blk s H scope (compEnvC scope cl C X.env) fp) ifs tt)
    (hk : ∀ (s : Shared) (H : Hp) (C : Addr) (cl : List (Str × Addr)) (fp : List Addr), PE (X.blk s H scope (compEnvC scope cl C X.env) fp) kx tk)
    (he : ∀ (s : Shared) (H : Hp) (C : Addr) (cl : List (Str × Addr)) (fp : List Addr), PE (X.blk s H scope (compEnvC scope cl C X.env) fp) vx tv) (hs : ∀ x, foldedSetIterable iter X.env x = pure x )
    (h : tDcX o Pt wi g tt tk tv (own.map (·.2)) σ H Q) (hRR : ∀ D C s' m H', Inv X pins σ H' s' → Q (.ref D) H' → s'.heap.Ns C m → FpOk X pins H' C → compPost (model X.prog X.w) X.A X.xe use Qf (.ref D) C (.ok .next) s') :
    wpAny (model X.prog X.w) X.A (comprehension (.DictComp kx vx [⟨tg, iter, ifs, 0⟩] scope pos) scope X.env pos' newDict false (eval iter X.env) use) Qf X.xe s := by
  have cellsOf : ∀ y ∈ scope.names, y.2 = .free → ∃ c, X.env.cells.lookup y.1 = some c := fun y hy e => I.ok.has _ (ok.free y hy e)
  refine wpAny_comprehension_free (use := use) rfl hs (closure_ok cellsOf) ok.kind (fun y hy e => by rw [ok.uniq y hy, e]) (thn (hi.run pins s σ H _ I h) fun xv s1 hx => thn hx fun itv s2 ⟨it, fp, tn, J, Hi, eit, Ii, T, sti, fpi, rest⟩ => ?_)
  subst eit
  refine wpAny_newObj_type (newEnv_comp ?_)
  -- the dict at D, as it begins
  have hDn : Hi s2.heap.objs.size = none := Ii.hok.fresh (Nat.le_refl _)
  obtain ⟨W, ⟨m0, w0⟩, turn⟩ := rest _ hDn
  have Id : Inv X pins σ (upd Hi s2.heap.objs.size (o s2.heap.objs.size)) { s2 with heap := s2.heap.push { cls := .type "dict", data := .dict #[] } } := Ii.laid (t' := s2.toks) (fun b o e => Heap.get?_push_of_some _ e) (Nat.le_refl _) (R.bare _ s2.heap Ii.big)
  have inOld : ∀ b ∈ fp, b < s2.heap.objs.size := fun b hb => (T.obj _ _ sti b hb).elim fun o e => Heap.lt_size e.1
  have fpd : ∀ b ∈ fp, FpOk X pins (upd Hi s2.heap.objs.size (o s2.heap.objs.size)) b ∧ b < (s2.heap.push { cls := .type "dict", data := .dict #[] }).objs.size := fun b hb => by
    have hlt := inOld b hb
    refine ⟨⟨?_, (fpi b hb).2⟩, by rw [Heap.size_push]; exact Nat.lt_succ_of_lt hlt⟩
    rw [upd_ne (Nat.ne_of_lt hlt)]
    exact (fpi b hb).1
  have Ib := block_start Id ok hN fpd
  have stb : tn 0 (pushCells ((s2.heap.push { cls := .type "dict", data := .dict #[] }).push { cls := .type "dict", data := .dict #[] }) scope.names) := T.keep _ _ _ sti fun b _ o e => pushCells_keeps _ _ _ _ (Heap.get?_push_of_some _ (Heap.get?_push_of_some _ e))
  have nob : ∀ b ∈ fp, (upd Hi s2.heap.objs.size (o s2.heap.objs.size)) b = none := fun b hb => (fpd b hb).1.1
  show codeAny _ _ (.compStart (.DictComp kx vx [⟨tg, iter, ifs, 0⟩] scope pos) 0 (.ref it) (.ref s2.heap.objs.size) (compEnvC scope (cellsFrom ((s2.heap.push { cls := .type "dict", data := .dict #[] }).objs.size + 1) scope.names (cloFrom X.env.cells scope.names [])) (s2.heap.push { cls := .type "dict", data := .dict #[] }).objs.size X.env)) (compPost (model X.prog X.w) X.A X.xe use Qf (.ref s2.heap.objs.size) (s2.heap.push { cls := .type "dict", data := .dict #[] }).objs.size)
    { s2 with heap := pushCells ((s2.heap.push { cls := .type "dict", data := .dict #[] }).push { cls := .type "dict", data := .dict #[] }) scope.names }
  have pg := hg { s2 with heap := s2.heap.push { cls := .type "dict", data := .dict #[] } } (upd Hi s2.heap.objs.size (o s2.heap.objs.size)) (s2.heap.push { cls := .type "dict", data := .dict #[] }).objs.size (cellsFrom ((s2.heap.push { cls := .type "dict", data := .dict #[] }).objs.size + 1) scope.names (cloFrom X.env.cells scope.names [])) fp
  have pt := ht { s2 with heap := s2.heap.push { cls := .type "dict", data := .dict #[] } } (upd Hi s2.heap.objs.size (o s2.heap.objs.size)) (s2.heap.push { cls := .type "dict", data := .dict #[] }).objs.size (cellsFrom ((s2.heap.push { cls := .type "dict", data := .dict #[] }).objs.size + 1) scope.names (cloFrom X.env.cells scope.names [])) fp
  have pk := hk { s2 with heap := s2.heap.push { cls := .type "dict", data := .dict #[] } } (upd Hi s2.heap.objs.size (o s2.heap.objs.size)) (s2.heap.push { cls := .type "dict", data := .dict #[] }).objs.size (cellsFrom ((s2.heap.push { cls := .type "dict", data := .dict #[] }).objs.size + 1) scope.names (cloFrom X.env.cells scope.names [])) fp
  have pe := he { s2 with heap := s2.heap.push { cls := .type "dict", data := .dict #[] } } (upd Hi s2.heap.objs.size (o s2.heap.objs.size)) (s2.heap.push { cls := .type "dict", data := .dict #[] }).objs.size (cellsFrom ((s2.heap.push { cls := .type "dict", data := .dict #[] }).objs.size + 1) scope.names (cloFrom X.env.cells scope.names [])) fp
  have cL : (compEnvC scope (cellsFrom ((s2.heap.push { cls := .type "dict", data := .dict #[] }).objs.size + 1) scope.names (cloFrom X.env.cells scope.names [])) (s2.heap.push { cls := .type "dict", data := .dict #[] }).objs.size X.env).locals = (s2.heap.push { cls := .type "dict", data := .dict #[] }).objs.size := rfl
  revert Ib pg pt pk pe cL
  generalize (compEnvC scope (cellsFrom ((s2.heap.push { cls := .type "dict", data := .dict #[] }).objs.size + 1) scope.names (cloFrom X.env.cells scope.names [])) (s2.heap.push { cls := .type "dict", data := .dict #[] }).objs.size X.env) = ce
  intro Ib pg pt pk pe cL
  revert Id fpd nob Ib pg pt pk pe w0
  generalize hH0 : upd Hi s2.heap.objs.size (o s2.heap.objs.size) = H0
  intro w0 Id fpd nob Ib pg pt pk pe
  -- what stays with the iterator's own objects
  have own' : ∀ {σ' : St} {H' : Hp} {s' : Shared}, Inv (X.blk { s2 with heap := s2.heap.push { cls := .type "dict", data := .dict #[] } } H0 scope ce fp) [] σ' H' s' → (∀ b ∈ fp, H' b = none) → ∀ b ∈ fp, FpOk (X.blk { s2 with heap := s2.heap.push { cls := .type "dict", data := .dict #[] } } H0 scope ce fp) [] H' b := fun {σ' H' s'} J' hn b hb =>
    ⟨hn b hb, (J'.ok.exf b hb).1, J'.ok.exfs b hb, .inl hb, fun x c e => (J'.ok.exf b hb).2 x c e, fun p hp => nomatch hp⟩
  have loop : codeAny (model X.prog X.w) X.A (.compLoop (.DictComp kx vx [⟨tg, iter, ifs, 0⟩] scope pos) 0 (.ref it) (.ref s2.heap.objs.size) ce) (compPost (model X.prog X.w) X.A X.xe use Qf (.ref s2.heap.objs.size) (s2.heap.push { cls := .type "dict", data := .dict #[] }).objs.size)
      { s2 with heap := pushCells ((s2.heap.push { cls := .type "dict", data := .dict #[] }).push { cls := .type "dict", data := .dict #[] }) scope.names } := by
    refine compLoop_anyD (fun m s' => ∃ i H', Inv (X.blk { s2 with heap := s2.heap.push { cls := .type "dict", data := .dict #[] } } H0 scope ce fp) [] (wipe σ (own.map (·.2))) H' s' ∧ tn i s'.heap ∧ (∀ b ∈ fp, H' b = none) ∧ W i m H') ?_ m0 ⟨0, H0, Ib, stb, nob, w0⟩
    rintro m s5 ⟨i, H5, I5, st5, n5, w5⟩
    rcases turn i m H5 w5 with ⟨stop, qq⟩ | ⟨go, Nx, hNx, step⟩
    · refine thnF (T.done (X.blk { s2 with heap := s2.heap.push { cls := .type "dict", data := .dict #[] } } H0 scope ce fp) rfl rfl rfl hc i [] s5 _ H5 (fun _ _ => False) I5 (own' I5 n5) st5 stop) fun r s6 ⟨hr, I6⟩ => ?_
      subst hr
      have I7 : Inv X pins σ H5 s6 := Id.call' (ch := fp) I6.os I6.base I6.hok I6.bare fun b hb => ⟨(fpd b hb).1.2.2.2.1, (fpd b hb).1.2.1, (fpd b hb).1.2.2.2.2.1, (fpd b hb).1.2.2.2.2.2⟩
      obtain ⟨mm, hn, _⟩ := I6.loc
      have nC : H5 (s2.heap.push { cls := .type "dict", data := .dict #[] }).objs.size = none := cL ▸ (show H5 ce.locals = none from I6.free)
      have hn : s6.heap.Ns (s2.heap.push { cls := .type "dict", data := .dict #[] }).objs.size mm := cL ▸ (show s6.heap.Ns ce.locals mm from hn)
      exact hRR _ _ s6 mm H5 I7 qq hn (Id.fpOk (Nat.le_refl _) nC)
    · refine thnF (T.item (X.blk { s2 with heap := s2.heap.push { cls := .type "dict", data := .dict #[] } } H0 scope ce fp) rfl rfl rfl hc i [] s5 _ H5 (fun _ _ => False) I5 (own' I5 n5) st5 go) fun r s6 ⟨u, hr, h6⟩ => ?_
      subst hr
      refine thnF h6 fun _ s7 ⟨x, H7, I7, r7, y7, st7, n7⟩ => ?_
      have I7' := I7.pinned (own' I7 n7) (T.obj _ _ st7)
      refine thnF (pg.run _ s7 _ H7 x u _ I7' r7 (step x H7 y7)) fun _ s8 ⟨σ8, H8, I8, hw8, q8⟩ => ?_
      have next : ∀ {s' : Shared} {H' : Hp}, Inv (X.blk { s2 with heap := s2.heap.push { cls := .type "dict", data := .dict #[] } } H0 scope ce fp) ([] ++ pinsAt fp s7.heap) σ8 H' s' → Nx H' → ∃ m', m' < m ∧ ∃ i H', Inv (X.blk { s2 with heap := s2.heap.push { cls := .type "dict", data := .dict #[] } } H0 scope ce fp) [] (wipe σ (own.map (·.2))) H' s' ∧ tn i s'.heap ∧ (∀ b ∈ fp, H' b = none) ∧ W i m' H' := fun {s' H'} J' nx => by
        obtain ⟨m', hm, w'⟩ := hNx H' nx
        have keep : ∀ b ∈ fp, ∀ o, s7.heap.get? b = some o → s'.heap.get? b = some o ∧ H' b = none := fun b hb o e => let z := J'.pin (b, o) (List.mem_append_right _ (List.mem_append_right _ (mem_pinsAt hb e))); ⟨z.1, z.2.1⟩
        refine ⟨m', hm, i + 1, H', (J'.unpinned (pins := [])).weak (by rw [← hw8, wipe_length]) (fun j v e => ?_), T.keep _ _ _ st7 fun b hb o e => (keep b hb o e).1, fun b hb => (T.obj _ _ st7 b hb).elim fun o e => (keep b hb o e.1).2, w'⟩
        rw [← hw8] at e
        exact (wipe_some e).1
      refine thnF (pt.run _ s8 σ8 H8 _ I8 q8) fun b s9 ⟨H9, I9, q9⟩ => ?_
      cases b with
      | false => exact next I9 q9
      | true =>
        refine thnF (pk.run _ s9 σ8 H9 _ I9 q9) fun z s10 ⟨yk, H10, I10, r10, q10⟩ => ?_
        refine thnF (pe.run _ s10 σ8 H10 _ I10 q10) fun z2 s11 ⟨yv, H11, I11, r11, H12, g, nx⟩ => ?_
        exact R.put (X.blk { s2 with heap := s2.heap.push { cls := .type "dict", data := .dict #[] } } H0 scope ce fp) _ _ _ _ _ _ _ _ _ _ _ _ rfl rfl rfl I11 g r10 r11 fun s12 I12 => next I12 nx
  exact codeAny_compStart_dict loop (T.self X.A 0 _ _ _ stb loop)
theorem pe_dcX {o : Addr → HO} {Pt : Hp → Addr → V → V → Hp → Prop} (R : PutR X.prog X.w X.A o Pt) {kx vx tg iter : Expr} {ifs : List Expr} {scope : Scope} {own : List (Str × Nat)} {pos : Pos} {wi : TI} {g : TG} {tt : TT} {tk tv : TE} (hc : X.calm = true) (hN : X.N.Nodup) (hi : PI X tg iter wi) (ok : BlkOk X.N X.env.scope scope own)
    (hg : ∀ (s : Shared) (H : Hp) (C : Addr) (cl : List (Str × Addr)) (fp : List Addr), PG (X.blk s H scope (compEnvC scope cl C X.env) fp) tg g) (ht : ∀ (s : Shared) (H : Hp) (C : Addr) (cl : List (Str × Addr)) (fp : List Addr), PTs (X.blk s H scope (compEnvC scope cl C X.env) fp) ifs tt)
    (hk : ∀ (s : Shared) (H : Hp) (C : Addr) (cl : List (Str × Addr)) (fp : List Addr), PE (X.blk s H scope (compEnvC scope cl C X.env) fp) kx tk)
    (he : ∀ (s : Shared) (H : Hp) (C : Addr) (cl : List (Str × Addr)) (fp : List Addr), PE (X.blk s H scope (compEnvC scope cl C X.env) fp) vx tv) (hs : ∀ x, foldedSetIterable iter X.env x = pure x := by intro _; rfl) :
    PE X (.DictComp kx vx [⟨tg, iter, ifs, 0⟩] scope pos) (tDcX o Pt wi g tt tk tv (own.map (·.2))) := by
  refine ⟨fun pins s σ H Q I h => ?_⟩
  rw [arm_eval_DictComp]
  refine dcX_core R I hc hN hi ok hg ht hk he hs h fun D C s' m H' I' q hn f => ⟨m, hn, fun h'' sb => ?_⟩
  exact ⟨.ref D, H', I'.turned (t' := s'.toks) (fun b o hb e => (sb.2 b hb).trans e) f.1 f.2.1 f.2.2.2.1 f.2.2.2.2.1 f.2.2.2.2.2, rfl, q⟩
theorem ps_setDcX {i : Nat} {y : Str} {py spos : Pos} {o : Addr → HO} {Pt : Hp → Addr → V → V → Hp → Prop} (R : PutR X.prog X.w X.A o Pt) {kx vx tg iter : Expr} {ifs : List Expr} {scope : Scope} {own : List (Str × Nat)} {pos : Pos} {wi : TI} {g : TG} {tt : TT} {tk tv : TE} (hc : X.calm = true) (hN : X.N.Nodup) (hy : X.N[i]? = some y) (hyl : X.env.scope.names.lookup y = some .local) (hsw : swapsWith (.DictComp kx vx [⟨tg, iter, ifs, 0⟩] scope pos) (some (.Name y py)) spos.line X.env = pure true) (hi : PI X tg iter wi) (ok : BlkOk X.N X.env.scope scope own)
    (hg : ∀ (s : Shared) (H : Hp) (C : Addr) (cl : List (Str × Addr)) (fp : List Addr), PG (X.blk s H scope (compEnvC scope cl C X.env) fp) tg g) (ht : ∀ (s : Shared) (H : Hp) (C : Addr) (cl : List (Str × Addr)) (fp : List Addr), PTs (X.blk s H scope (compEnvC scope cl C X.env) fp) ifs tt)
    (hk : ∀ (s : Shared) (H : Hp) (C : Addr) (cl : List (Str × Addr)) (fp : List Addr), PE (X.blk s H scope (compEnvC scope cl C X.env) fp) kx tk)
    (he : ∀ (s : Shared) (H : Hp) (C : Addr) (cl : List (Str × Addr)) (fp : List Addr), PE (X.blk s H scope (compEnvC scope cl C X.env) fp) vx tv) (hs : ∀ x, foldedSetIterable iter X.env x = pure x := by intro _; rfl) :
    PS X (.Assign [.Name y py] (.DictComp kx vx [⟨tg, iter, ifs, 0⟩] scope pos) spos) (tAsg (tDcX o Pt wi g tt tk tv (own.map (·.2))) (gName i)) := by
  refine ⟨fun pins s σ H D I h => ?_⟩
  rw [exec_Assign_Name_used _ _ _ _ hsw]
  refine wpAny_bind (wpAny_standAt (wpAny_bind ?_))
  show wpAny _ X.A (do let _ ← comprehension (.DictComp kx vx [⟨tg, iter, ifs, 0⟩] scope pos) scope X.env _ newDict false (eval iter X.env) (some (assign (.Name y py) X.env))) _ _ s
  have h2 : tDcX o Pt wi g tt tk tv (own.map (·.2)) σ H (fun x H1 => gName i x σ H1 D.nx) := h
  refine wpAny_bind (thn (dcX_core (Qf := fun _ s' => SP X pins D .next s') R I hc hN hi ok hg ht hk he hs h2 fun L C s' m H' I' q hn f => ?_) fun _ s' hq => wpAny_pure (wpAny_pure hq))
  show wpAny _ _ (assign (.Name y py) X.env (.ref L)) _ _ _
  refine wpAny_assign_Name (store_ok2 (v := V.ref L) I' hN hy (.inl hyl) rfl (fun s2 I2 z => ?_) (.inr hyl))
  obtain ⟨a, sb, ha⟩ := z
  obtain ⟨f0, f1, f2, f3, f4, f5⟩ := f
  have haC : C ≠ a := ha.elim (fun z => z ▸ f1) fun z e => f4 y a z e.symm
  exact ⟨m, hn.sameBut sb haC, fun h3 sb3 => ⟨_, H', I2.turned (t' := s2.toks) (fun b o hb e => (sb3.2 b hb).trans e) f0 f1 f3 f4 f5, q⟩⟩
theorem swD_true {kx vx : Expr} {gs : List Comprehension} {scope : Scope} {pos py : Pos} {y : Str} {l : Nat} {env : Env} (hk : env.scope.kind = .function) (hy : env.scope.names.lookup y = some .local) (hl : (py.line == pos.line) = true)
    (ha : (scope.names.any fun (n, k) => n == y && (k == .local || k == .cell)) = false) : swapsWith (.DictComp kx vx gs scope pos) (some (.Name y py)) l env = pure true := by
  have ky : env.kindOf y = some .local := hy
  have hb : env.blockKind = .function := by unfold Env.blockKind; rw [hk]; rfl
  unfold swapsWith
  simp only [hb, ky, ha, Expr.pos, hl]
  try rfl
/-- the keys of the locked dict at d, in their order -/
def Itn (w : World) (d : Addr) (o : Obj) (ks : List NKey) : It :=
  ⟨fun i H => H d = some (.frz o (DNo w d ks)) ∧ i < ks.length, fun i H x H' => H' = H ∧ ∃ k, ks[i]? = some k ∧ x = nkV k, fun i H => H d = some (.frz o (DNo w d ks)) ∧ ks.length ≤ i⟩
theorem Inv.frzN {d : Addr} {o : Obj} {w : World} {ks : List NKey} (I : Inv X pins σ H s) (h : H d = some (.frz o (DNo w d ks))) :
    (d == sysModules) = false ∧ s.heap.get? d = some o ∧ o.ExactDict ∧ ∃ (es : Array DictEntry) (ep : Nat), o.data = .dict es ep ∧ es.size = ks.length ∧ ∀ (i : Nat) (k : NKey), ks[i]? = some k → ∃ en : DictEntry, es[i]? = some en ∧ en.key = nkU k := by
  obtain ⟨hd, ⟨z, hs, o', es, ep, ho, hx, hdt, he, _⟩, _, _⟩ := I.hok d _ h
  rw [hd] at ho
  cases ho
  refine ⟨hs, hd, hx, es, ep, hdt, ?_, fun i k e => ?_⟩
  · rw [← Array.length_toList, he, List.length_map]
  · refine ⟨nkE w k, ?_, rfl⟩
    rw [← Array.getElem?_toList, he, List.getElem?_map, e]
    rfl
theorem turn_keysN {P : Program} {w w' : World} {K : PySem.W.Frag} {tg : Expr} {d : Addr} {o : Obj} {es : Array DictEntry} {ep : Nat} {ks : List NKey} (it : Addr) (hod : o.data = .dict es ep) : Turn P w K tg (Itn w' d o ks) [it] it (fun i h => h.IsKeyIter it d i ks.length ep) where
  mem := by simp
  obj := fun i h st b hb => by
    have e : b = it := by simpa using hb
    subst e
    obtain ⟨oi, e, c, dd⟩ := st
    exact ⟨oi, e, fun v z => by rw [dd] at z; cases z⟩
  keep := fun i h h' st k => st.at fun oi e => k it (by simp) oi e
  item := by
    intro X hP hw hK hc i pins s σ H E I hf st hg
    subst hP hw hK
    obtain ⟨hd, hi⟩ := hg
    obtain ⟨f0, f1, f2, f3, f4, f5⟩ := hf it (by simp)
    obtain ⟨hs, hgd, hx, es', ep', hdt, hsz, ent⟩ := I.frzN hd
    obtain ⟨rfl, rfl⟩ := dict_ep hod hdt
    obtain ⟨k, hkv⟩ : ∃ p, ks[i]? = some p := ⟨ks[i], List.getElem?_eq_getElem hi⟩
    obtain ⟨en, hen, hkey⟩ := ent i k hkv
    refine next_key_item st hgd hdt hsz hen fun h' st' sb => ?_
    have I1 : Inv X pins σ H { s with heap := h' } := I.turned (t' := s.toks) (fun b ob hb e => (sb.2 b hb).trans e) f0 f1 f3 f4 f5
    obtain ⟨oi, e, c, dd⟩ := id st'
    refine ⟨en.key, rfl, go_of (s := { s with heap := h' }) e c dd (by decide) ⟨nkV k, H, I1, by rw [hkey]; exact nk_rel k, ⟨rfl, k, hkv, rfl⟩, ?_, fun b hb => (hf b hb).1⟩⟩
    exact st'
  done := by
    intro X hP hw hK hc i pins s σ H E I hf st hg
    subst hP hw hK
    obtain ⟨hd, hi⟩ := hg
    obtain ⟨f0, f1, f2, f3, f4, f5⟩ := hf it (by simp)
    obtain ⟨hs, hgd, hx, es', ep', hdt, hsz, ent⟩ := I.frzN hd
    obtain ⟨rfl, rfl⟩ := dict_ep hod hdt
    exact next_key_end (I.ok.hd hc) st hgd hdt hsz hi fun h' eb => ⟨rfl, I.turned (t' := s.toks) (fun b ob hb e => eb b ob hb e) f0 f1 f3 f4 f5⟩
  self := fun A i s Q E st h => wpAny_pyIter_keyiter st h
def iKeysN (td : TE) : TI := fun σ H R => td σ H fun x H1 => ∃ w d o ks, x = .ref d ∧ H1 d = some (.frz o (DNo w d ks)) ∧ R (Itn w d o ks) H1
theorem pi_keysN {tg e : Expr} {td : TE} (he : PE X e td) : PI X tg e (iKeysN td) := by
  refine ⟨fun pins s σ H R I h => ?_⟩
  refine thn (he.run pins s σ H _ I h) fun u s1 ⟨x, H1, I1, rx, w, d, o, ks, ex, hd, q⟩ => ?_
  subst ex
  obtain rfl : u = Value.ref d := rx
  obtain ⟨hs, hgd, hx, es, ep, hdt, hsz, ent⟩ := I1.frzN hd
  refine iter_keys hs hgd hx hdt (pi_one (tk := s1.toks) I1 _ (turn_keysN _ hdt) ⟨_, Heap.get?_push_size _ rfl, rfl, ?_⟩ q)
  rw [hsz] <;> rfl
theorem walk_keysN {w : World} {d : Addr} {o : Obj} {ks : List NKey} : Walk (Itn w d o ks) ks.length (fun H => H d = some (.frz o (DNo w d ks))) (fun i H x H' => H' = H ∧ ∃ k, ks[i]? = some k ∧ x = nkV k) :=
  ⟨fun _ _ hi q => ⟨q, hi⟩, fun _ q => ⟨q, Nat.le_refl _⟩, fun _ _ _ _ _ _ y => y⟩
theorem putR_n (hu : X.A.units + 9 < cLine) : PutR X.prog X.w X.A (fun d => DNo X.w d []) (PutN X.w) where
  bare := fun H h hb => dn_empty h hb
  put := fun X' pins σ H H' s E D y v u r Q e1 e2 e3 I g ry rv h => putN_set (by rw [e3]; exact hu) I (by rw [e2]; exact g) ry rv h
end
end L2

-- part: ZL1
namespace Toy
open PySem L2
/-! ### clauses of things of any kind -/
def canon (row : List Int) : List Int := (row.foldl addU []).mergeSort fun a b => decide (absI a ≤ absI b)
theorem canon_perm (row : List Int) : (canon row).Perm (row.foldl addU []) := List.mergeSort_perm _ _
theorem canon_rise (row : List Int) : (canon row).Pairwise fun a b => absI a ≤ absI b := by
  have h := List.pairwise_mergeSort (le := fun a b => decide (absI a ≤ absI b)) (fun a b c h1 h2 => decide_eq_true (Int.le_trans (of_decide_eq_true h1) (of_decide_eq_true h2))) (fun a b => by
    rw [Bool.or_eq_true, decide_eq_true_eq, decide_eq_true_eq]
    omega) (row.foldl addU [])
  exact h.imp fun h => of_decide_eq_true h
theorem canon_mem (row : List Int) (x : Int) : x ∈ canon row ↔ x ∈ row := by
  rw [(canon_perm row).mem_iff, mem_fold]
  simp
theorem canon_cl {row : List Int} (low : ∀ x ∈ row, 1 ≤ x.natAbs) (one : ∀ x ∈ row, -x ∉ row) : IsCl row (canon row) := by
  refine ⟨strict_of (canon_perm row) (nd_fold row [] List.nodup_nil) (fun x hx => ?_) (fun x hx => ?_) (canon_rise row), canon_mem row⟩
  · rw [mem_fold] at hx ⊢
    simp only [List.not_mem_nil, false_or] at hx ⊢
    exact one x hx
  · rw [mem_fold] at hx
    simp only [List.not_mem_nil, false_or] at hx
    exact low x hx
theorem canon_of {row c : List Int} (low : ∀ x ∈ row, 1 ≤ x.natAbs) (one : ∀ x ∈ row, -x ∉ row) (h : IsCl row c) : c = canon row := IsCl.ext h (canon_cl low one) fun _ => Iff.rfl
/-- what clause_of tells of a list of these, of so many truths -/
def clO (t : Int) (ys : List V) : Option (List Int) := if (ys.all fun v => letB v t) = true ∧ ∀ z ∈ ys.map intV, -z ∉ ys.map intV then some (canon (ys.map intV)) else none
/-- a thing: a list or a tuple of these, or no such -/
def ThgA (K : PySem.W.Frag) (H : Hp) (y : V) : Option (List V) → Prop
  | some ys => ∃ p, y = .ref p ∧ SqA K H p ys ∧ ys.length ≤ 1000 ∧ ∀ v ∈ ys, ∃ T, TyB K H v T
  | none => ∃ T, TyB K H y T ∧ (["list", "tuple"].contains T) = false
theorem ThgA.ty {K : PySem.W.Frag} {H : Hp} {y : V} {c : Option (List V)} (h : ThgA K H y c) : ∃ T, TyB K H y T ∧ (["list", "tuple"].contains T) = c.isSome := by
  cases c with
  | none => exact h
  | some ys =>
    obtain ⟨p, rfl, hs, _⟩ := h
    exact hs.ty
section
variable {P : Program} {w : World} {K : PySem.W.Frag} {mg : Str → Option Value} {base : Heap}
abbrev sIsList : Stmt := s_is_list
theorem scIsList : FnScope ["thing"] ["thing"] (defScope sIsList) := ⟨rfl, rfl, rfl, by decide +kernel, rfl, by decide +kernel, by decide +kernel⟩
def spIsList (K : PySem.W.Frag) : Sp := fun vs H Q _ => ∃ x T, vs = [x] ∧ TyB K H x T ∧ ∀ H', Same H H' → Q (.bl (["list", "tuple"].contains T)) H'
theorem ok_isList {f : Addr} {fd : FuncData} (F : Fun K "is_list" "is_list" sIsList f fd) (B : Bl mg) : FnOk P w K mg base CX0 1 f fd ["thing"] (spIsList K) := by
  refine F.ok scIsList (fun vs H Q E h => ?_) (fun cdv A outer s H vs Q E hr h => ?_)
  · obtain ⟨x, T, rfl, _⟩ := h
    rfl
  · obtain ⟨x, T, rfl, ty, q⟩ := h
    refine ⟨_, pss_one (ps_ret (pe_cmpR op_inTy (pe_callTy call_type1 (by rfl) B.type (by decide +kernel) (pa_cons (pv 0) pa_nil)) (pe_tup (pa_cons (pe_bltn (v := .ty "list") (by rfl) B.list (by decide +kernel) rfl) (pa_cons (pe_bltn (v := .ty "tuple") (by rfl) B.tuple (by decide +kernel) rfl) pa_nil))) (by rfl))), ?_⟩
    show tRet _ _ [some x] H
    walk_at "rd"
    refine ⟨x, T, rfl, ty, by show 2 ≤ sizeLine; decide, fun p hp => ?_⟩
    exact ⟨T, p, ["list", "tuple"], rfl, rfl, SqT.of upd_same, Kn.ty ty, by simp [Kn], q _ (Same.new hp)⟩
abbrev sClause : Stmt := s_clause_of
theorem scClause : FnScope ["thing", "many", "letters", "letter"] ["thing", "many"] (defScope sClause) := ⟨rfl, rfl, rfl, by decide +kernel, rfl, by decide +kernel, by decide +kernel⟩
/-- of any thing: None, or the clause -/
def spClauseG (K : PySem.W.Frag) : Sp := fun vs H Q _ => ∃ y t c, vs = [y, .int t] ∧ ThgA K H y c ∧ ∀ (a : Addr) (H' : Hp), Same H H' → NKAt H' (c.bind (clO t), a) → Q (nkV (c.bind (clO t), a)) H'
theorem letB_int {v : V} {t : Int} (h : letB v t = true) : ∃ i, v = .int i ∧ 1 ≤ absI i ∧ absI i ≤ t := by
  cases v with
  | int i =>
    have h : (decide (1 ≤ absI i) && decide (absI i ≤ t)) = true := h
    rw [Bool.and_eq_true, decide_eq_true_eq, decide_eq_true_eq] at h
    exact ⟨i, rfl, h.1, h.2⟩
  | _ => cases h
theorem ok_clauseG {f fN fL fT : Addr} {fd fdN fdL fdT : FuncData} (F : Fun K "clause_of" "clause_of" sClause f fd) (B : Bl mg) (N : Df K mg "is_number" sIsNum ["thing"] fN fdN) (L : Df K mg "is_list" sIsList ["thing"] fL fdL) (T : Df K mg "is_letter" sIsLet ["thing", "many"] fT fdT) :
    FnOk P w K mg base CX0 3 f fd ["thing", "many"] (spClauseG K) := by
  have GL : FnOk P w K mg base CX0 1 fL fdL ["thing"] (spIsList K) := ok_isList L.F B
  have GT : FnOk P w K mg base CX0 2 fT fdT ["thing", "many"] (spIsLet K) := ok_isLet T.F B N
  refine F.ok scClause (fun vs H Q E h => ?_) (fun cdv A outer s H vs Q E hr h => ?_)
  · obtain ⟨y, t, c, rfl, _⟩ := h
    rfl
  · obtain ⟨y, t, c, rfl, hT, q⟩ := h
    have hu := hu_of hr
    refine ⟨_, pss_cons (ps_if (pt_not (pt_val (pe_call GL (hr.mono (by decide)) rfl L.g L.F.kp L.b .nil pass0 (pa_cons (pv 0) pa_nil)))) (pss_one (ps_ret pe_non)) pss_nil)
      (pss_cons (ps_set (i := 2) scClause.nd rfl (Or.inl rfl) pe_dnewK)
      (pss_cons (ps_for PassesOwn.never rfl (pi_or (pi_list (pv 0)) (pi_tup (pv 0))) (pg_name (i := 3) scClause.nd rfl (Or.inl rfl))
        (pss_cons (ps_if (PW.pt (pw_or (pt_not (pt_val (pe_call GT hr rfl T.g T.F.kp T.b .nil pass0 (pa_cons (pv 3) (pa_cons (pv 1) pa_nil))))) (pw_or1 (pt_cmp (pc_din hu (pe_un un_neg (pv 3)) (pv 2)))))) (pss_one (ps_ret pe_non)) pss_nil)
        (pss_one (ps_dput hu (pv 2) (pv 3) pe_bl rfl))))
      (pss_one (ps_ret (pe_callTy call_tuple_of (by rfl) B.tuple (by decide +kernel) (pa_cons (pe_sorted (run_list (u100 hr) rel_abs fun a => PyProof.Rows.ksk_t4 "abs" a) (key_abs (by rfl) B.abs) (by rfl) B.sorted
        (pa_cons (pe_callTy (call_listD rfl) (by rfl) B.list (by decide +kernel) (pa_cons (pv 2) pa_nil)) pa_nil)) pa_nil)))))), ?_⟩
    show tSeq _ _ _ [some y, some (.int t), none, none] H
    walk_at "rd"
    obtain ⟨Ty, ty, hty⟩ := hT.ty
    refine ⟨y, Ty, rfl, ty, fun H1 s1 => ?_⟩
    rw [hty]
    cases c with
    | none =>
      walk_at "rd"
      exact iteT (q 0 H1 s1 (.inl rfl))
    | some ys =>
    obtain ⟨p, rfl, hS, hlen, tys⟩ := hT
    have q : ∀ (a : Addr) (H' : Hp), Same H H' → NKAt H' (clO t ys, a) → Q (nkV (clO t ys, a)) H' := q
    have bad : clO t ys = none → ∀ H', Same H H' → Q .non H' := fun e H' s' => by
      have := q 0 H' s'
      rw [e] at this
      exact this (.inl rfl)
    walk_at "rd"
    refine iteF ?_
    walk_at "rd"
    intro d hd
    walk_at "rd"
    have nd1 : Same H1 (upd H1 d (.dK [])) := Same.new hd
    let Pv : Nat → St → Hp → Prop := fun i σ H' => ∃ (kvs : List (Key × V)) (ks : List Int) (lv : Option V), σ = [some (.ref p), some (.int t), some (.ref d), lv] ∧ Same H1 H' ∧ H' d = some (.dK kvs) ∧ kvs.map (·.1) = ks.map Sum.inl ∧ ks.Nodup ∧ (∀ z, z ∈ ks ↔ z ∈ (ys.take i).map intV) ∧ ks.length ≤ i ∧ (∀ v ∈ ys.take i, letB v t = true) ∧ ∀ z ∈ ks, -z ∉ ks
    have h0 : Pv 0 [some (.ref p), some (.int t), some (.ref d), none] (upd H1 d (.dK [])) := ⟨[], [], none, rfl, nd1, upd_same, rfl, List.nodup_nil, by simp, Nat.le_refl _, by simp, by simp⟩
    have hs : ∀ (D : Ends) i x σ H', D.rt = Q → ys[i]? = some x → Pv i σ H' → (tSeq (tIfS (tOr (tNot (tB (tCall (spIsLet K) [] E0 (tCons (tVar 3) (tCons (tVar 1) tNil))))) (tB (tDIn (tUn (rU fun i => V.int (-i)) (tVar 3)) (tVar 2)))) (tRet (tC V.non)) tNext) (sDPut (tVar 2) (tVar 3) (tC (V.bl true)))) { D with nx := Pv (i + 1), ct := Pv (i + 1), bk := D.nx } (σ.set 3 (some x)) H' := by
      rintro D i x σ H' hD hi ⟨kvs, ks, lv, rfl, e1, hk, hkeys, hnd, hmem, hkl, hgood, hone⟩
      have xr : x ∈ ys := List.mem_of_getElem? hi
      have hil : i < ys.length := (List.getElem?_eq_some_iff.mp hi).1
      obtain ⟨Tx, tx⟩ := tys x xr
      have s1' := Same.trans s1 e1
      walk_at "rd"
      refine ⟨x, Tx, t, rfl, TyB.same s1' tx, ?_⟩
      cases el : letB x t with
      | false =>
        walk_at "rd"
        refine iteT ?_
        show D.rt _ _
        rw [hD]
        refine bad ?_ _ s1'
        unfold clO
        rw [if_neg fun h => by
          have := List.all_eq_true.mp h.1 x xr
          rw [el] at this
          cases this]
      | true =>
        obtain ⟨z, rfl, hz1, hz2⟩ := letB_int el
        walk_at "rd"
        refine iteF ?_
        refine ⟨d, _, rfl, DGet.k (k := Sum.inl (-z)) hk, ?_⟩
        rw [val_keys inl_inj hkeys (-z)]
        have zr : z ∈ ys.map intV := List.mem_map.mpr ⟨_, xr, rfl⟩
        by_cases hneg : -z ∈ ks
        · rw [decide_eq_true hneg]
          walk_at "rd"
          suffices D.rt V.non H' by first | exact this | exact iteT this
          rw [hD]
          refine bad ?_ _ s1'
          unfold clO
          rw [if_neg fun h => h.2 z zr (by
            obtain ⟨v, hv, e⟩ := List.mem_map.mp ((hmem _).mp hneg)
            exact List.mem_map.mpr ⟨v, List.mem_of_mem_take hv, e⟩)]
        · rw [decide_eq_false hneg]
          walk_at "rd"
          refine iteF ?_
          walk_at "rd"
          refine ⟨d, _, rfl, DPut.k (k := Sum.inl z) hk ?_, ?_⟩
          · have := congrArg List.length hkeys
            rw [List.length_map, List.length_map] at this
            exact small1000 (by omega)
          · have tk : ys.take (i + 1) = ys.take i ++ [V.int z] := by rw [List.take_add_one, hi]; rfl
            refine ⟨_, addU ks z, _, rfl, fun b o e => ?_, upd_same, keys_put inl_inj hkeys z _, nd_add hnd z, fun y => ?_, Nat.le_trans (len_add z) (by omega), ?_, ?_⟩
            · have hb : b ≠ d := ne_of_none e hd
              rw [upd_ne hb]
              exact e1 b o e
            · rw [mem_add, hmem, tk, List.map_append, List.mem_append]
              show _ ↔ _ ∨ y ∈ [z]
              rw [List.mem_singleton]
            · rw [tk]
              intro v hv
              rcases List.mem_append.mp hv with hv | hv
              · exact hgood v hv
              · rw [List.mem_singleton.mp hv]; exact el
            · intro a ha hb
              rw [mem_add] at ha hb
              rcases ha with ha | rfl
              · rcases hb with hb | hb
                · exact hone a ha hb
                · exact hneg (by rw [← hb, Int.neg_neg]; exact ha)
              · rcases hb with hb | hb
                · exact hneg hb
                · rw [absI_nat] at hz1
                  omega
    have hd' : ∀ σ H', Pv ys.length σ H' → (tRet (tCB (fun xs H Q => ∃ p ys, xs = [V.ref p] ∧ ((SqL K H p ys ∧ ∀ (l : Addr), H l = none → Q (V.ref l) (upd H l (HO.tup ys))) ∨ SqT K H p ys ∧ Q (V.ref p) H)) (tCons (tSorted (rSortL K fun x H Q => ∃ i, x = V.int i ∧ Q (V.int (if i < 0 then -i else i)) H)
        (tCons (tCB (fun xs H Q => ∃ a kvs, xs = [V.ref a] ∧ Rd H a (HO.dK kvs) ∧ ∀ (p : Addr), H p = none → Q (V.ref p) (upd H p (HO.lst (List.map (fun kv => kV kv.fst) kvs)))) (tCons (tVar 2) tNil)) tNil)) tNil))) { nx := fun x H' => Q V.non H', rt := Q } σ H' := by
      rintro σ H' ⟨kvs, ks, lv, rfl, e1, hk, hkeys, hnd, hmem, hkl, hgood, hone⟩
      rw [List.take_length] at hmem hgood
      walk_at "rd"
      refine ⟨d, kvs, rfl, .inl hk, fun l hl => ?_⟩
      walk_at "rd"
      refine ⟨l, _, rfl, SqL.of upd_same, ?_⟩
      have ek : kvs.map (fun kv => kV kv.1) = ks.map V.int := by
        have := congrArg (List.map kV) hkeys
        rw [List.map_map, List.map_map] at this
        exact this
      rw [ek]
      refine go_abs fun out p2 hp ho hn => ?_
      refine ⟨p2, _, rfl, .inl ⟨SqL.of upd_same, fun l2 hl2 => ?_⟩⟩
      have low : ∀ x ∈ ys.map intV, 1 ≤ x.natAbs := fun x hx => by
        obtain ⟨v, hv, rfl⟩ := List.mem_map.mp hx
        obtain ⟨i, rfl, h1, _⟩ := letB_int (hgood v hv)
        rw [absI_nat] at h1
        show 1 ≤ i.natAbs
        omega
      have one : ∀ x ∈ ys.map intV, -x ∉ ys.map intV := fun x hx h => hone x ((hmem x).mpr hx) ((hmem _).mpr h)
      have e : clO t ys = some (canon (ys.map intV)) := by
        unfold clO
        rw [if_pos ⟨List.all_eq_true.mpr hgood, one⟩]
      have eo : out = canon (ys.map intV) := canon_of low one ⟨strict_of hp hnd hone (fun x hx => low x ((hmem x).mp hx)) ho, fun x => (hp.mem_iff).trans (hmem x)⟩
      have q' := q l2 (upd (upd (upd H' l (.lst (ks.map V.int))) p2 (.lst (out.map V.int))) l2 (.tup (out.map V.int))) (Same.trans s1 (Same.trans e1 (Same.trans (Same.new hl) (Same.trans (Same.new hn) (Same.new hl2)))))
      rw [e] at q'
      exact q' (.inr ⟨_, rfl, by rw [← eo]; exact upd_same⟩)
    rcases hS with hS | hS
    · exact Or.inl ⟨_, rfl, p, rfl, ⟨_, Same.seq (Same.trans s1 nd1) hS⟩, for_list (K := K) (a := p) (xs := ys) Pv h0 (fun i σ H' _ ⟨_, _, _, _, e, _⟩ => Same.seq (Same.trans s1 e) hS) (fun i x σ H' hi pv => hs _ i x σ H' rfl hi pv) hd'⟩
    · exact Or.inr ⟨_, rfl, p, rfl, ⟨_, Same.sqt (Same.trans s1 nd1) hS⟩, for_tup (K := K) (a := p) (xs := ys) Pv h0 (fun i σ H' _ ⟨_, _, _, _, e, _⟩ => Same.sqt (Same.trans s1 e) hS) (fun i x σ H' hi pv => hs _ i x σ H' rfl hi pv) hd'⟩
end
end Toy

-- part: ZL2
namespace Toy
open PySem L2
/-! ### the clauses of lesser, in numbers -/
def rowAt (B : List Int) (f last : Int) (O : List Int) (j : Nat) : List (List Int) :=
  [-(f + (j : Int)), -(O.getD j 0), gL B (O.getD j 0)] :: (if f + (j : Int) < last then [[-(f + (j : Int)), -(O.getD j 0), f + (j : Int) + 1], [-(f + (j : Int)), gL B (O.getD j 0), f + (j : Int) + 1]] else [])
def rowsUp (B : List Int) (f last : Int) (O : List Int) (j : Nat) : List (List Int) := [f] :: (List.range j).flatMap (rowAt B f last O)
theorem rowsUp_succ (B : List Int) (f last : Int) (O : List Int) (j : Nat) : rowsUp B f last O (j + 1) = rowsUp B f last O j ++ rowAt B f last O j := by
  unfold rowsUp
  rw [List.range_succ, List.flatMap_append]
  simp
theorem rowAt_len (B : List Int) (f last : Int) (O : List Int) (j : Nat) : (rowAt B f last O j).length ≤ 3 := by
  unfold rowAt
  split <;> simp
theorem rowsUp_len (B : List Int) (f last : Int) (O : List Int) : ∀ j, (rowsUp B f last O j).length ≤ 1 + 3 * j
  | 0 => by simp [rowsUp]
  | j + 1 => by
    rw [rowsUp_succ, List.length_append]
    have := rowsUp_len B f last O j
    have := rowAt_len B f last O j
    omega
theorem rowAt_sz (B : List Int) (f last : Int) (O : List Int) (j : Nat) : ∀ r ∈ rowAt B f last O j, r.length ≤ 3 := by
  unfold rowAt
  intro r hr
  split at hr <;> simp at hr
  · rcases hr with rfl | rfl | rfl <;> simp
  · rw [hr]; simp
theorem rowsUp_sz (B : List Int) (f last : Int) (O : List Int) (j : Nat) : ∀ r ∈ rowsUp B f last O j, r.length ≤ 3 := by
  intro r hr
  unfold rowsUp at hr
  rcases List.mem_cons.mp hr with rfl | hr
  · simp
  · obtain ⟨i, _, hi⟩ := List.mem_flatMap.mp hr
    exact rowAt_sz B f last O i r hi
def clI (t : Int) (row : List Int) : Option (List Int) := clO t (row.map V.int)
/-- the clauses, each once, as they come -/
def lesC (last : Int) (rows : List (List Int)) : List (List Int) := (rows.filterMap (clI last)).foldl addU []
theorem fm_add {os : List (Option (List Int))} : ∀ acc : List (Option (List Int)), (os.foldl addU acc).filterMap id = (os.filterMap id).foldl addU (acc.filterMap id) := by
  induction os with
  | nil => intro acc; rfl
  | cons o os ih =>
    intro acc
    rw [List.foldl_cons, ih]
    cases o with
    | none =>
      have : (addU acc none).filterMap id = acc.filterMap id := by
        unfold addU
        split
        · rfl
        · rw [List.filterMap_append]; simp
      rw [this, List.filterMap_cons]
      rfl
    | some c =>
      have : (addU acc (some c)).filterMap id = addU (acc.filterMap id) c := by
        unfold addU
        have e : some c ∈ acc ↔ c ∈ acc.filterMap id := by rw [List.mem_filterMap]; simp
        by_cases h : some c ∈ acc
        · rw [if_pos h, if_pos (e.mp h)]
        · rw [if_neg h, if_neg fun z => h (e.mpr z), List.filterMap_append]
          rfl
      rw [this, List.filterMap_cons]
      rfl
theorem addN_keys (ks : List NKey) (x : NKey) : (addN ks x).map (·.1) = addU (ks.map (·.1)) x.1 := by
  unfold addN addU
  split
  · rfl
  · rw [List.map_append]; rfl
theorem mem_addN {ks : List NKey} {x z : NKey} (h : z ∈ addN ks x) : z ∈ ks ∨ z = x := by
  unfold addN at h
  split at h
  · exact .inl h
  · rcases List.mem_append.mp h with h | h
    · exact .inl h
    · exact .inr (List.mem_singleton.mp h)
theorem Same.none2 {H H' : Hp} {a : Addr} (e : Same H H') (h : H' a = none) : H a = none := by
  cases z : H a with
  | none => rfl
  | some o => exact absurd (h.symm.trans (e _ _ z)) (by simp)
section
variable {P : Program} {w : World} {K : PySem.W.Frag} {mg : Str → Option Value} {base : Heap}
/-! ### lesser_clauses -/
abbrev sLc : Stmt := s_lesser_clauses
abbrev nLc : List Str := ["turn", "first", "letters", "ways_back", "last", "rows", "helper", "letter", "behind", "clauses", "row", "clause"]
theorem scLc : FnScope nLc ["turn", "first", "letters"] (defScope sLc) := ⟨rfl, rfl, rfl, by decide +kernel, rfl, by decide +kernel, by decide +kernel⟩
def spLc (K : PySem.W.Frag) : Sp := fun vs H Q _ => ∃ (a o : Addr) (n : Nat) (L O : List Int) (f : Int), vs = [.ref a, .int f, .ref o] ∧ SqT K H a (L.map V.int) ∧ Trn n L ∧ 1 ≤ n ∧ n ≤ 200 ∧ SqT K H o (O.map V.int) ∧ Trn n O ∧ 1 ≤ f ∧ f ≤ 2000000 ∧
  ∀ (B : List Int) (l : Addr) (bs : List Addr) (H' : Hp), Bk n L B → Same H H' → H l = none → H' l = some (.lst (bs.map V.ref)) → TupsAt H' bs (lesC (f + n - 1) (rowsUp B f (f + n - 1) O n)) → Q (.ref l) H'
theorem notn {o : Option (List Int)} {a : Addr} : (!decide (nkV (o, a) = V.non)) = o.isSome := by
  cases o <;> simp [nkV]
def tClK (K : PySem.W.Frag) : TE := tCall (spClauseG K) [] E0 (tCons (tVar 10) (tCons (tVar 4) tNil))
theorem TupsAt.upd2 {H : Hp} {a : Addr} {o o' : HO} (h : H a = some o) (nt : ∀ ys, o ≠ .tup ys) {bs : List Addr} {cs : List (List Int)} (t : TupsAt H bs cs) : TupsAt (upd H a o') bs cs := Paired.mapP t fun b c e => by
  rw [upd_ne fun z => nt _ (Option.some.inj (h.symm.trans (z ▸ e)))]
  exact e
theorem pairApp2 {α β : Type} {F : α → β → Prop} {a : List α} {b : List β} (h : Paired F a b) {c : List α} {d : List β} (u : Paired F c d) : Paired F (a ++ c) (b ++ d) := by
  induction h with
  | nil => exact u
  | cons h _ ih => exact .cons h ih
def rNotN' : R2 := fun x y H Q => y = .non ∧ Q (.bl (!decide (x = .non))) H
theorem op_notN' {X : Cx} : OpR X (compareOp .IsNot) rNotN' := op_notN
def tNn : TT := tTest (tOp rNotN' (tVar 11) (tC .non))
theorem walk_list2 {J : It} {n : Nat} {G : Hp → Prop} {Y : Nat → Hp → V → Hp → Prop} (wk : Walk J n G Y) {H0 : Hp} {Qd : Hp → Prop} (Bd : (Hp → Prop) → V → Hp → Prop) (Pv : Nat → Hp → Prop) (h0 : Pv 0 H0) (hl : ∀ i H, i ≤ n → Pv i H → G H)
    (hs : ∀ i x H H', i < n → Pv i H → Y i H x H' → Bd (Pv (i + 1)) x H') (hd : ∀ H, Pv n H → Qd H) :
    ∃ W : Nat → Nat → Hp → Prop, (∃ m, W 0 m H0) ∧ ∀ i m H, W i m H →
      (J.stop i H ∧ Qd H) ∨ (J.go i H ∧ ∃ Nx : Hp → Prop, (∀ H', Nx H' → ∃ m', m' < m ∧ W (i + 1) m' H') ∧ ∀ x H', J.yld i H x H' → Bd Nx x H') := by
  refine ⟨fun i m H => m = n - i ∧ i ≤ n ∧ Pv i H, ⟨n, by simp, Nat.zero_le _, h0⟩, ?_⟩
  rintro i m H ⟨rfl, hi, p⟩
  have q := hl i H hi p
  by_cases hlt : i < n
  · exact .inr ⟨wk.goes i H hlt q, Pv (i + 1), fun H' p' => ⟨n - (i + 1), by omega, rfl, hlt, p'⟩, fun x H' y => hs i x H H' hlt p (wk.yields i H x H' hlt q y)⟩
  · have e : i = n := by omega
    subst e
    exact .inl ⟨wk.stops H q, hd H p⟩
theorem ok_lc {f fN fL fT fC fTb fLb : Addr} {fd fdN fdL fdT fdC fdTb fdLb : FuncData} (F : Fun K "lesser_clauses" "lesser_clauses" sLc f fd) (B' : Bl mg) (N : Df K mg "is_number" sIsNum ["thing"] fN fdN) (L' : Df K mg "is_list" sIsList ["thing"] fL fdL) (T : Df K mg "is_letter" sIsLet ["thing", "many"] fT fdT)
    (C' : Df K mg "clause_of" sClause ["thing", "many"] fC fdC) (Tb : Df K mg "table_of" sTab ["turn"] fTb fdTb) (Lb : Df K mg "led_back" sLb ["turn"] fLb fdLb) : FnOk P w K mg base CX0 4 f fd ["turn", "first", "letters"] (spLc K) := by
  have GC : FnOk P w K mg base CX0 3 fC fdC ["thing", "many"] (spClauseG K) := ok_clauseG C'.F B' N L' T
  have GTb : FnOk P w K mg base CX0 1 fTb fdTb ["turn"] (spTab K) := ok_tab Tb.F B'
  have GLb : FnOk P w K mg base CX0 1 fLb fdLb ["turn"] (spLb K) := ok_lb Lb.F B'
  refine F.ok scLc (fun vs H Q E h => ?_) (fun cdv A outer s H vs Q E hr h => ?_)
  · obtain ⟨a, o, n, L, O, f, rfl, _⟩ := h
    rfl
  · obtain ⟨a, o, n, L, O, f, rfl, ha, t, n1, n2, ho, to, f1, f2, q⟩ := h
    refine ⟨_, pss_cons (ps_set (i := 3) scLc.nd rfl (Or.inl rfl) (pe_call GTb (hr.mono (by decide)) rfl Tb.g Tb.F.kp Tb.b .nil pass0 (pa_cons (pe_call GLb (hr.mono (by decide)) rfl Lb.g Lb.F.kp Lb.b .nil pass0 (pa_cons (pv 0) pa_nil)) pa_nil)))
      (pss_cons (ps_set (i := 4) scLc.nd rfl (Or.inr rfl) (pe_op op_sub (pe_op op_add (pv 1) (pe_callB call_len_seq (by rfl) B'.len PySem.boot_len (pa_cons (pv 2) pa_nil))) pe_int))
      (pss_cons (ps_set (i := 5) scLc.nd rfl (Or.inl rfl) (pe_lst (pa_cons (pe_tup (pa_cons (pv 1) pa_nil)) pa_nil)))
      (pss_cons (ps_for PassesOwn.never rfl (pi_enumK (by rfl) B'.enumerate (pa_cons (pv 2) pa_nil) (pv 1)) (pg_tup rfl (pgs_cons (pg_name (i := 6) scLc.nd rfl (Or.inl rfl)) (pgs_cons (pg_name (i := 7) scLc.nd rfl (Or.inl rfl)) pgs_nil)))
        (pss_cons (ps_set (i := 8) scLc.nd rfl (Or.inl rfl) (pe_ix ix_tup (pv 3) (pv 7) (fun _ _ => rfl)))
        (pss_cons (ps_expr (pe_bm PySem.F.plainAttrs_list PySem.F.slot_list_append PySem.F.type_list_append mt_append (pv 5) (pa_cons (pe_tup (pa_cons (pe_un un_neg (pv 6)) (pa_cons (pe_un un_neg (pv 7)) (pa_cons (pv 8) pa_nil)))) pa_nil)))
        (pss_one (ps_if (pt_cmpR op_lt (pv 6) (pv 4) (nomark _))
          (pss_cons (ps_expr (pe_bm PySem.F.plainAttrs_list PySem.F.slot_list_append PySem.F.type_list_append mt_append (pv 5) (pa_cons (pe_tup (pa_cons (pe_un un_neg (pv 6)) (pa_cons (pe_un un_neg (pv 7)) (pa_cons (pe_op op_add (pv 6) pe_int) pa_nil)))) pa_nil)))
          (pss_one (ps_expr (pe_bm PySem.F.plainAttrs_list PySem.F.slot_list_append PySem.F.type_list_append mt_append (pv 5) (pa_cons (pe_tup (pa_cons (pe_un un_neg (pv 6)) (pa_cons (pv 8) (pa_cons (pe_op op_add (pv 6) pe_int) pa_nil)))) pa_nil))))) pss_nil)))))
      (pss_cons (ps_setDcX (i := 9) (own := [("row", 10)]) (g := gName 10) (tt := tYes) (tk := tClK K) (tv := tC (.bl true)) (putR_n (Nat.lt_of_le_of_lt (Nat.add_le_add_left (by decide : 9 ≤ 100) _) (u100 hr))) rfl scLc.nd rfl rfl (swD_true rfl rfl rfl (by decide +kernel)) (pi_list (pv 5)) (blkOk_by (own := [("row", 10)]) (N := nLc) (sc := defScope sLc) (by decide +kernel))
          (fun _ _ _ _ _ => pg_name (i := 10) scLc.nd rfl (Or.inl rfl)) (fun _ _ _ _ _ => pts_nil) (fun _ _ _ _ _ => pe_call GC hr rfl C'.g C'.F.kp C'.b .nil pass0 (pa_cons (pv 10) (pa_cons (pv 4) pa_nil))) (fun _ _ _ _ _ => pe_bl))
      (pss_one (ps_ret (pe_lock (pe_lc (own := [("clause", 11)]) (g := gName 11) (tt := tNn) (te := tVar 11) rfl scLc.nd (pi_keysN (pv 9)) (blkOk_by (own := [("clause", 11)]) (N := nLc) (sc := defScope sLc) (by decide +kernel))
          (fun _ _ _ _ _ => pg_name (i := 11) scLc.nd rfl (Or.inl rfl)) (fun _ _ _ _ _ => pts_one (pt_cmpR op_notN' (pv 11) pe_non (nomark _))) (fun _ _ _ _ _ => pv 11))))))))), ?_⟩
    show tSeq _ _ _ [some (.ref a), some (.int f), some (.ref o), none, none, none, none, none, none, none, none, none] H
    have lo := to.len
    have eZ : sizeLine = 16777216 := rfl
    refine seq_gen (fun σ' H' => ∃ (g : Addr) (B : List Int), σ' = [some (.ref a), some (.int f), some (.ref o), some (.ref g), none, none, none, none, none, none, none, none] ∧ Bk n L B ∧ Same H H' ∧ H' g = some (.tup ((tabL B).map V.int))) (fun nx hnx => ?_) ?_
    · walk_at "rd"
      refine ⟨a, n, L, rfl, ha, t, by omega, fun b B H1 bk s1 hb => ?_⟩
      refine ⟨b, B, rfl, SqT.of hb, fun e => by have := bk.len; rw [e] at this; simp at this; omega, by rw [bk.len]; omega, fun g H2 s2 hg => ?_⟩
      exact hnx _ _ ⟨g, B, rfl, bk, Same.trans s1 s2, hg⟩
    rintro σ' H1 ⟨g, B, rfl, bk, s1, hg⟩
    have lB := bk.len
    refine seq_gen (fun σ' H' => σ' = [some (.ref a), some (.int f), some (.ref o), some (.ref g), some (.int (f + n - 1)), none, none, none, none, none, none, none] ∧ H' = H1) (fun nx hnx => ?_) ?_
    · walk_at "rd"
      refine ⟨o, _, rfl, .inr (Same.sqt s1 ho), ?_⟩
      rw [List.length_map, lo]
      exact hnx _ _ ⟨rfl, rfl⟩
    rintro σ' H2 ⟨rfl, rfl⟩
    generalize hlast : f + (n : Int) - 1 = last at *
    refine seq_gen (fun σ' H' => ∃ (r : Addr) (bs : List Addr), σ' = [some (.ref a), some (.int f), some (.ref o), some (.ref g), some (.int last), some (.ref r), none, none, none, none, none, none] ∧ H2 r = none ∧ H' r = some (.lst (bs.map V.ref)) ∧ TupsAt H' bs (rowsUp B f last O 0) ∧ Same H2 H') (fun nx hnx => ?_) ?_
    · walk_at "rd"
      refine ⟨by show 1 ≤ sizeLine; decide, fun b hb => ?_⟩
      refine ⟨by show 1 ≤ sizeLine; decide, fun r hr' => ?_⟩
      have nb : H2 r = none := by
        by_cases e : r = b
        · rw [e]; exact hb
        · rw [upd_ne e] at hr'; exact hr'
      refine hnx _ _ ⟨r, [b], rfl, nb, upd_same, .cons ?_ .nil, Same.trans (Same.new hb) (Same.new hr')⟩
      have nbr : b ≠ r := fun e => by
        rw [← e, upd_same] at hr'
        cases hr'
      rw [upd_ne nbr, upd_same]
      rfl
    rintro σ' H3 ⟨r, bs0, rfl, nr, hr3, tb3, s3⟩
    refine seq_gen (fun σ' H' => ∃ (l6 l7 l8 : Option V) (bs : List Addr), σ' = [some (.ref a), some (.int f), some (.ref o), some (.ref g), some (.int last), some (.ref r), l6, l7, l8, none, none, none] ∧ H' r = some (.lst (bs.map V.ref)) ∧ TupsAt H' bs (rowsUp B f last O n) ∧ Same H2 H') (fun nx hnx => ?_) ?_
    · refine ⟨_, rfl, _, rfl, o, O.map V.int, f, rfl, rfl, Same.sqt (Same.trans s1 s3) ho, by omega, by omega, ?_⟩
      refine for_it (walk_enumC (xs := O.map V.int) (c := f)) (fun j σ Hj => ∃ (l6 l7 l8 : Option V) (bs : List Addr), σ = [some (.ref a), some (.int f), some (.ref o), some (.ref g), some (.int last), some (.ref r), l6, l7, l8, none, none, none] ∧ Hj r = some (.lst (bs.map V.ref)) ∧ TupsAt Hj bs (rowsUp B f last O j) ∧ Same H2 Hj) ⟨none, none, none, bs0, rfl, hr3, tb3, s3⟩ (fun j σ Hj _ ⟨_, _, _, _, _, _, _, e⟩ => Same.sqt (Same.trans s1 e) ho) ?_ ?_
      · rintro j x σ Hj Hk hj ⟨l6, l7, l8, bs, rfl, hrj, tbj, ej⟩ ⟨T, y, rfl, nT, rfl, hy⟩
        rw [List.length_map] at hj
        rw [List.getElem?_map, List.getElem?_eq_getElem hj] at hy
        cases hy
        have sT : Same Hj (upd Hj T (.tup [.int (f + (j : Nat)), V.int O[j]])) := Same.new nT
        have hT : upd Hj T (.tup [.int (f + (j : Nat)), V.int O[j]]) T = some (.tup [.int (f + (j : Nat)), V.int O[j]]) := upd_same
        generalize upd Hj T (.tup [.int (f + (j : Nat)), V.int O[j]]) = Hk at *
        refine ⟨T, _, rfl, SqT.of hT, rfl, _, _, rfl, _, _, rfl, rfl, ?_⟩
        have ek := Same.trans ej sT
        have hrk := sT _ _ hrj
        have tbk := TupsAt.same sT tbj
        have lenb : bs.length ≤ 601 := by
          rw [TupsAt.len tbk]
          have := rowsUp_len B f last O j
          omega
        have ltj : Lt n O[j] := to.bd (List.getElem_mem hj)
        have gj : O.getD j 0 = O[j] := gD hj
        -- a row put behind the others
        have app : ∀ (Ha : Hp) (bs : List Addr) (cs : List (List Int)) (c : List Int) (b : Addr), Same H2 Ha → Ha r = some (.lst (bs.map V.ref)) → TupsAt Ha bs cs → Ha b = none →
            upd (upd Ha b (.tup (c.map V.int))) r (.lst (bs.map V.ref ++ [.ref b])) r = some (.lst ((bs ++ [b]).map V.ref)) ∧ TupsAt (upd (upd Ha b (.tup (c.map V.int))) r (.lst (bs.map V.ref ++ [.ref b]))) (bs ++ [b]) (cs ++ [c]) ∧ Same H2 (upd (upd Ha b (.tup (c.map V.int))) r (.lst (bs.map V.ref ++ [.ref b]))) := by
          intro Ha bs cs c b e1 hr1 tb1 nb
          have nbr : b ≠ r := fun e => by rw [e, hr1] at nb; cases nb
          refine ⟨by rw [upd_same, List.map_append]; rfl, ?_, fun x ox hx => ?_⟩
          · refine TupsAt.upd2 (o := .lst (bs.map V.ref)) (by rw [upd_ne (Ne.symm nbr)]; exact hr1) (fun ys z => by cases z) ?_
            exact pairApp2 (TupsAt.same (Same.new nb) tb1) (.cons upd_same .nil)
          · have hxr : x ≠ r := fun e => by rw [e, nr] at hx; cases hx
            rw [upd_ne hxr, upd_ne (ne_of_none (e1 x ox hx) nb)]
            exact e1 x ox hx
        refine seq_gen (fun σ' H' => σ' = [some (.ref a), some (.int f), some (.ref o), some (.ref g), some (.int last), some (.ref r), some (.int (f + (j : Nat))), some (.int O[j]), some (.int (gL B O[j])), none, none, none] ∧ H' = Hk) (fun nx hnx => ?_) ?_
        · walk_at "rd"
          exact p_ixT (SqT.of (ek _ _ hg)) (tab_at lB ltj) (hnx _ _ ⟨rfl, rfl⟩)
        rintro σ' H5 ⟨rfl, rfl⟩
        refine seq_gen (fun σ' H' => σ' = [some (.ref a), some (.int f), some (.ref o), some (.ref g), some (.int last), some (.ref r), some (.int (f + (j : Nat))), some (.int O[j]), some (.int (gL B O[j])), none, none, none] ∧ ∃ bs, H' r = some (.lst (bs.map V.ref)) ∧ TupsAt H' bs (rowsUp B f last O j ++ [[-(f + (j : Int)), -(O.getD j 0), gL B (O.getD j 0)]]) ∧ Same H2 H') (fun nx hnx => ?_) ?_
        · walk_at "rd"
          refine ⟨Or.inl ⟨rfl, _, Or.inl (Or.inl hrk)⟩, ?_⟩
          refine ⟨by show 3 ≤ sizeLine; decide, fun b hb => ?_⟩
          have nbr : r ≠ b := fun e => by rw [← e, hrk] at hb; cases hb
          refine p_app (by rw [upd_ne nbr]; exact hrk) (by rw [List.length_map]; omega) ?_
          have z := app H5 bs _ [-(f + (j : Int)), -(O.getD j 0), gL B (O.getD j 0)] b ek hrk tbk hb
          have e7 : ([-(f + (j : Int)), -(O.getD j 0), gL B (O.getD j 0)].map V.int) = [V.int (-(f + (j : Int))), V.int (-O[j]), V.int (gL B O[j])] := by rw [gj]; rfl
          rw [e7] at z
          exact hnx _ _ ⟨rfl, bs ++ [b], z.1, z.2.1, z.2.2⟩
        rintro σ' H6 ⟨rfl, bs6, hr6, tb6, e6⟩
        have lenb6 : bs6.length ≤ 700 := by
          rw [TupsAt.len tb6, List.length_append]
          have := rowsUp_len B f last O j
          simp only [List.length_singleton]
          omega
        walk_at "rd"
        have jlt : j < n := by omega
        by_cases hlt : f + (j : Int) < last
        · rw [decide_eq_true hlt]
          refine iteT ?_
          refine ⟨Or.inl ⟨rfl, _, Or.inl (Or.inl hr6)⟩, ?_⟩
          refine ⟨by show 3 ≤ sizeLine; decide, fun b hb => ?_⟩
          have nbr : r ≠ b := fun e => by rw [← e, hr6] at hb; cases hb
          refine p_app (by rw [upd_ne nbr]; exact hr6) (by rw [List.length_map]; omega) ?_
          have z := app H6 bs6 _ [-(f + (j : Int)), -(O.getD j 0), f + (j : Int) + 1] b e6 hr6 tb6 hb
          have e7 : ([-(f + (j : Int)), -(O.getD j 0), f + (j : Int) + 1].map V.int) = [V.int (-(f + (j : Int))), V.int (-O[j]), V.int (f + (j : Int) + 1)] := by rw [gj]; rfl
          rw [e7] at z
          obtain ⟨hr7, tb7, s7⟩ := z
          generalize upd (upd H6 b (.tup [V.int (-(f + (j : Int))), V.int (-O[j]), V.int (f + (j : Int) + 1)])) r (.lst (bs6.map V.ref ++ [.ref b])) = H7 at *
          refine ⟨Or.inl ⟨rfl, _, Or.inl (Or.inl hr7)⟩, ?_⟩
          refine ⟨by show 3 ≤ sizeLine; decide, fun b2 hb2 => ?_⟩
          have nbr2 : r ≠ b2 := fun e => by rw [← e, hr7] at hb2; cases hb2
          refine p_app (by rw [upd_ne nbr2]; exact hr7) (by rw [List.length_map, List.length_append]; show bs6.length + 1 < _; omega) ?_
          have z := app H7 _ _ [-(f + (j : Int)), gL B (O.getD j 0), f + (j : Int) + 1] b2 s7 hr7 tb7 hb2
          have e8 : ([-(f + (j : Int)), gL B (O.getD j 0), f + (j : Int) + 1].map V.int) = [V.int (-(f + (j : Int))), V.int (gL B O[j]), V.int (f + (j : Int) + 1)] := by rw [gj]; rfl
          rw [e8] at z
          obtain ⟨hr8, tb8, s8⟩ := z
          refine ⟨_, _, _, _, rfl, hr8, ?_, s8⟩
          have e9 : rowsUp B f last O j ++ [[-(f + (j : Int)), -(O.getD j 0), gL B (O.getD j 0)]] ++ [[-(f + (j : Int)), -(O.getD j 0), f + (j : Int) + 1]] ++ [[-(f + (j : Int)), gL B (O.getD j 0), f + (j : Int) + 1]] = rowsUp B f last O (j + 1) := by
            rw [rowsUp_succ]
            unfold rowAt
            rw [if_pos hlt]
            simp
          rw [← e9]
          exact tb8
        · rw [decide_eq_false hlt]
          refine iteF ?_
          refine ⟨_, _, _, bs6, rfl, hr6, ?_, e6⟩
          have e9 : rowsUp B f last O j ++ [[-(f + (j : Int)), -(O.getD j 0), gL B (O.getD j 0)]] = rowsUp B f last O (j + 1) := by
            rw [rowsUp_succ]
            unfold rowAt
            rw [if_neg hlt]
          rw [← e9]
          exact tb6
      · rintro σ Hk ⟨l6, l7, l8, bs, rfl, hrk, tbk, ek⟩
        rw [List.length_map, lo] at tbk
        exact hnx _ _ ⟨l6, l7, l8, bs, rfl, hrk, tbk, ek⟩
    rintro σ' H4 ⟨l6, l7, l8, bs, rfl, hr4, tb4, s4⟩
    have lenr : (rowsUp B f last O n).length ≤ 601 := by
      have := rowsUp_len B f last O n
      omega
    have lenb := TupsAt.len tb4
    generalize hR : rowsUp B f last O n = R at *
    have smR : ∀ c ∈ R, c.length ≤ 3 := fun c hc => rowsUp_sz B f last O n c (by rw [hR]; exact hc)
    refine seq_gen (fun σ' H' => ∃ (d : Addr) (ks : List NKey), σ' = [some (.ref a), some (.int f), some (.ref o), some (.ref g), some (.int last), some (.ref r), l6, l7, l8, some (.ref d), none, none] ∧ Same H4 H' ∧ H4 d = none ∧ H' d = some (DNo w d ks) ∧ (∀ z ∈ ks, NKAt H' z) ∧ ks.length ≤ 601 ∧ (ks.map (·.1)).filterMap id = lesC last R) (fun nx hnx => ?_) ?_
    · refine ⟨_, rfl, r, rfl, ⟨_, SqL.of hr4⟩, fun d hd => walk_list2 (walk_list (K := K) (a := r) (xs := bs.map V.ref)) _ (fun j Hj => Same H4 Hj ∧ ∃ ks : List NKey, Hj d = some (DNo w d ks) ∧ (∀ z ∈ ks, NKAt Hj z) ∧ ks.length ≤ j ∧ ks.map (·.1) = ((R.take j).map (clI last)).foldl addU []) ⟨Same.new hd, [], upd_same, (fun z hz => nomatch hz), Nat.le_refl _, rfl⟩ (fun j Hj _ ⟨e, _⟩ => SqL.of (e _ _ hr4)) ?_ ?_⟩
      · rintro j x Hj _ hj ⟨ej, ks, hDj, hks, lk, ek⟩ ⟨rfl, hx⟩
        rw [List.length_map] at hj
        rw [List.getElem?_map] at hx
        cases ez : bs[j]? with
        | none => rw [ez] at hx; cases hx
        | some b =>
        rw [ez] at hx
        cases hx
        obtain ⟨c, hc, hb⟩ := TupsAt.get (TupsAt.same ej tb4) ez
        refine ⟨rfl, yesT ?_⟩
        refine ⟨_, rfl, _, rfl, .ref b, last, some (c.map V.int), rfl, ⟨b, rfl, .inr (SqT.of hb), by rw [List.length_map]; have := smR c (List.mem_of_getElem? hc); omega, fun v hv => ?_⟩, fun a2 H5 s5 nk => ?_⟩
        · obtain ⟨i, _, rfl⟩ := List.mem_map.mp hv
          exact ⟨_, .int i⟩
        · have nk : NKAt H5 (clI last c, a2) := nk
          have hD5 := s5 _ _ hDj
          have hk5 : ∀ z ∈ ks, NKAt H5 z := fun z hz => (hks z hz).keep fun c e => s5 _ _ e
          refine ⟨_, ⟨ks, (clI last c, a2), hD5, hk5, nk, rfl, rfl, by omega, rfl⟩, fun b o hb => ?_, _, upd_same, fun z hz => ?_, Nat.le_trans (addN_len ks _) (by omega), ?_⟩
          · rw [upd_ne (ne_of_none hb hd)]
            exact s5 b o (ej b o hb)
          · have st : ∀ z, NKAt H5 z → NKAt (upd H5 d (DNo w d (addN ks (clI last c, a2)))) z := fun z h => h.keep fun c e => by
              rw [upd_ne fun q => by rw [q, hD5] at e; cases e]
              exact e
            rcases mem_addN hz with h | rfl
            · exact st z (hk5 z h)
            · exact st _ nk
          · rw [addN_keys, ek, List.take_add_one, hc, Option.toList_some, List.map_append, List.foldl_append]
            rfl
      · rintro H5 ⟨s5, ks, hD5, hks, lk, ek⟩
        rw [List.length_map] at lk ek
        rw [lenb, List.take_length] at ek
        refine hnx _ _ ⟨d, ks, rfl, s5, hd, hD5, hks, by omega, ?_⟩
        rw [ek, fm_add]
        show List.foldl addU [] _ = lesC last R
        unfold lesC
        rw [List.filterMap_map]
        rfl
    rintro σ' H5 ⟨d, ks, rfl, s5, nd, hd, hks, lk, ek⟩
    refine ⟨d, _, hd, True.intro, fun od => ?_⟩
    refine ⟨_, rfl, w, d, od, ks, rfl, upd_same, fun D hD => lc_it walk_keysN (fun j Hj => Hj d = some (.frz od (DNo w d ks)) ∧ (∀ b o, H5 b = some o → b ≠ d → Hj b = some o) ∧ ∃ bs : List Addr, Hj D = some (.lst (bs.map V.ref)) ∧ bs.length ≤ j ∧ TupsAt H5 bs (((ks.take j).map (·.1)).filterMap id)) ?_ ?_ ?_ ?_⟩
    · have nDd : D ≠ d := fun e => by rw [e, upd_same] at hD; cases hD
      refine ⟨by rw [upd_ne (Ne.symm nDd)]; exact upd_same, fun b o hb n => ?_, [], upd_same, Nat.le_refl _, .nil⟩
      rw [upd_ne (fun e => by rw [← e, upd_ne n, hb] at hD; cases hD), upd_ne n]
      exact hb
    · exact fun j Hj _ p => p.1
    · rintro j x Hj _ hj ⟨hdj, ej, bs2, hDj, lb2, tb2⟩ ⟨rfl, k, hk, rfl⟩
      have nDd : D ≠ d := fun e => by rw [e, upd_same] at hD; cases hD
      have hkm := hks k (List.mem_of_getElem? hk)
      obtain ⟨ko, kb⟩ := k
      refine ⟨rfl, ?_⟩
      refine ⟨_, rfl, rfl, _, rfl, ?_⟩
      rw [notn]
      have tk : ((ks.take (j + 1)).map (·.1)).filterMap id = ((ks.take j).map (·.1)).filterMap id ++ [ko].filterMap id := by
        rw [List.take_add_one, hk, Option.toList_some, List.map_append, List.filterMap_append]
        rfl
      cases ko with
      | none =>
        refine iteF ⟨hdj, ej, bs2, hDj, by omega, ?_⟩
        rw [tk]
        simpa using tb2
      | some c =>
        refine iteT ?_
        refine ⟨_, rfl, _, hDj, by rw [List.length_map]; omega, ?_, fun b o hb n => ?_, bs2 ++ [kb], by rw [upd_same, List.map_append]; rfl, by rw [List.length_append]; show _ + 1 ≤ _; omega, ?_⟩
        · rw [upd_ne (Ne.symm nDd)]
          exact hdj
        · rw [upd_ne fun e => by rw [← e, upd_ne n, hb] at hD; cases hD]
          exact ej b o hb n
        · rw [tk]
          refine pairApp2 tb2 (.cons ?_ .nil)
          rcases hkm with h | ⟨c', h1, h2⟩
          · cases h
          · cases h1
            exact h2
    · rintro H6 ⟨hd6, e6, bs2, hD6, lb2, tb2⟩
      have nDd : D ≠ d := fun e => by rw [e, upd_same] at hD; cases hD
      rw [List.take_length, ek] at tb2
      have s6 : Same H5 (upd H6 d (DNo w d ks)) := fun b o hb => by
        by_cases e : b = d
        · rw [e, upd_same, ← hd, ← e]
          exact hb
        · rw [upd_ne e]
          exact e6 b o hb e
      refine ⟨hd6, q B D bs2 _ bk (Same.trans s1 (Same.trans s4 (Same.trans s5 s6))) (Same.none2 (Same.trans s1 (Same.trans s4 s5)) (by rw [upd_ne nDd] at hD; exact hD)) (by rw [upd_ne nDd]; exact hD6) ?_⟩
      rw [hR]
      exact TupsAt.same s6 tb2
end
end Toy

-- part: AN0
namespace Toy
open PySem L2
/-! ### the search for answers, in numbers -/
def once (cs : List (List Int)) (l : Int) : List (List Int) := (cs.filter fun c => decide (l ∉ c)).map fun c => c.filter fun x => decide (x ≠ -l)
def Bits (n : Nat) (W : List Int) : Prop := W.length = n ∧ ∀ x ∈ W, x = 0 ∨ x = 1
def holdsC (W : List Int) (cs : List (List Int)) : Bool := cs.all fun c => c.any (hd W)
def LtCs (n : Nat) (cs : List (List Int)) : Prop := ∀ c ∈ cs, ∀ x ∈ c, Lt n x
theorem hd_neg {n : Nat} {W : List Int} (b : Bits n W) {l : Int} (h : Lt n l) : hd W (-l) = !hd W l := by
  unfold hd
  have hl := h
  unfold Lt at hl
  have hb : W.getD (absI l - 1).toNat 0 = 0 ∨ W.getD (absI l - 1).toNat 0 = 1 := by
    have hj : (absI l - 1).toNat < W.length := by rw [b.1]; omega
    rw [gD hj]
    exact b.2 _ (List.getElem_mem hj)
  rw [absI_neg]
  by_cases p : 0 < l
  · rw [if_neg (by omega), if_pos p]
    rcases hb with e | e <;> rw [e] <;> decide
  · have hz : l ≠ 0 := by
      intro z
      rw [z] at hl
      have : absI 0 = 0 := rfl
      omega
    rw [if_pos (by omega), if_neg p]
    rcases hb with e | e <;> rw [e] <;> decide
theorem lt_ne {n : Nat} {l : Int} (h : Lt n l) : l ≠ -l := by
  intro e
  unfold Lt absI at h
  split at h <;> omega
theorem mem_once {cs : List (List Int)} {l : Int} {d : List Int} : d ∈ once cs l ↔ ∃ c ∈ cs, l ∉ c ∧ d = c.filter fun x => decide (x ≠ -l) := by
  unfold once
  rw [List.mem_map]
  constructor
  · rintro ⟨c, hc, rfl⟩
    obtain ⟨h1, h2⟩ := List.mem_filter.mp hc
    exact ⟨c, h1, of_decide_eq_true h2, rfl⟩
  · rintro ⟨c, h1, h2, rfl⟩
    exact ⟨c, List.mem_filter.mpr ⟨h1, decide_eq_true h2⟩, rfl⟩
theorem holds_iff {W : List Int} {cs : List (List Int)} : holdsC W cs = true ↔ ∀ c ∈ cs, ∃ x ∈ c, hd W x = true := by
  unfold holdsC
  rw [List.all_eq_true]
  exact ⟨fun h c hc => List.any_eq_true.mp (h c hc), fun h c hc => List.any_eq_true.mpr (h c hc)⟩
theorem holds_once {n : Nat} {W : List Int} {cs : List (List Int)} {l : Int} (b : Bits n W) (hl : Lt n l) (t : hd W l = true) : holdsC W (once cs l) = holdsC W cs := by
  rw [Bool.eq_iff_iff, holds_iff, holds_iff]
  constructor
  · intro h c hc
    by_cases m : l ∈ c
    · exact ⟨l, m, t⟩
    · obtain ⟨x, hx, hx2⟩ := h _ (mem_once.mpr ⟨c, hc, m, rfl⟩)
      exact ⟨x, (List.mem_filter.mp hx).1, hx2⟩
  · intro h d hd'
    obtain ⟨c, hc, m, rfl⟩ := mem_once.mp hd'
    obtain ⟨x, hx, hx2⟩ := h c hc
    refine ⟨x, List.mem_filter.mpr ⟨hx, decide_eq_true fun e => ?_⟩, hx2⟩
    rw [e, hd_neg b hl, t] at hx2
    cases hx2
theorem lt_once {n : Nat} {cs : List (List Int)} {l : Int} (h : LtCs n cs) : LtCs n (once cs l) := fun d hd' x hx => by
  obtain ⟨c, hc, _, rfl⟩ := mem_once.mp hd'
  exact h c hc x (List.mem_filter.mp hx).1
/-- how much is left -/
def szC (cs : List (List Int)) : Nat := (cs.map fun c => c.length + 1).sum
theorem sz_cons (c : List Int) (cs : List (List Int)) : szC (c :: cs) = c.length + 1 + szC cs := by unfold szC; rw [List.map_cons, List.sum_cons]
theorem once_cons (c : List Int) (cs : List (List Int)) (l : Int) : once (c :: cs) l = if l ∈ c then once cs l else (c.filter fun x => decide (x ≠ -l)) :: once cs l := by
  unfold once
  rw [List.filter_cons]
  by_cases h : l ∈ c
  · rw [if_pos h, if_neg (by rw [decide_eq_false (not_not_intro h)]; decide)]
  · rw [if_neg h, if_pos (decide_eq_true h), List.map_cons]
theorem sz_le (l : Int) : ∀ cs : List (List Int), szC (once cs l) ≤ szC cs
  | [] => Nat.le_refl _
  | c :: r => by
    have ih := sz_le l r
    rw [once_cons, sz_cons]
    split
    · omega
    · rw [sz_cons]
      have := List.length_filter_le (fun x => decide (x ≠ -l)) c
      omega
theorem filter_lt {c : List Int} {p : Int → Bool} {x : Int} (hx : x ∈ c) (hp : p x = false) : (c.filter p).length < c.length := by
  have h1 := List.length_filter_le p c
  rcases Nat.lt_or_eq_of_le h1 with h | h
  · exact h
  · have := (List.length_filter_eq_length_iff.mp h) x hx
    rw [hp] at this
    cases this
theorem sz_lt {l : Int} : ∀ {cs : List (List Int)} {d : List Int}, d ∈ cs → (l ∈ d ∨ -l ∈ d) → szC (once cs l) < szC cs
  | c :: r, d, hd', hl => by
    rw [once_cons, sz_cons]
    rcases List.mem_cons.mp hd' with rfl | hd'
    · have := sz_le l r
      split
      · omega
      · rename_i nm
        rw [sz_cons]
        have hm : -l ∈ d := hl.resolve_left nm
        have := filter_lt (p := fun x => decide (x ≠ -l)) hm (by rw [decide_eq_false (not_not_intro rfl)])
        omega
    · have ih := sz_lt hd' hl
      split
      · omega
      · rw [sz_cons]
        have := List.length_filter_le (fun x => decide (x ≠ -l)) c
        omega
/-- letters by which some hold of each clause -/
structure WayOk (n : Nat) (way : List Int) (cs : List (List Int)) : Prop where
  lt : ∀ l ∈ way, Lt n l
  one : ∀ l ∈ way, -l ∉ way
  hit : ∀ c ∈ cs, ∃ l ∈ way, l ∈ c
theorem WayOk.once {n : Nat} {way : List Int} {cs : List (List Int)} {l : Int} (h : WayOk n way cs) (nl : -l ∉ way) : WayOk n way (once cs l) := by
  refine ⟨h.lt, h.one, fun d hd' => ?_⟩
  obtain ⟨c, hc, _, rfl⟩ := mem_once.mp hd'
  obtain ⟨x, hx, hx2⟩ := h.hit c hc
  exact ⟨x, hx, List.mem_filter.mpr ⟨hx2, decide_eq_true fun e => nl (e ▸ hx)⟩⟩
/-- the worths by a way -/
def wayW (n : Nat) (way : List Int) : List Int := (List.range n).map fun (i : Nat) => if (1 + (i : Int)) ∈ way then 1 else 0
theorem wayW_bits (n : Nat) (way : List Int) : Bits n (wayW n way) := by
  refine ⟨by unfold wayW; rw [List.length_map, List.length_range], fun x hx => ?_⟩
  unfold wayW at hx
  obtain ⟨i, _, rfl⟩ := List.mem_map.mp hx
  split
  · exact .inr rfl
  · exact .inl rfl
theorem wayW_hd {n : Nat} {way : List Int} (one : ∀ l ∈ way, -l ∉ way) {l : Int} (h : Lt n l) (hl : l ∈ way) : hd (wayW n way) l = true := by
  obtain ⟨j, hj, e⟩ := h.two
  unfold hd wayW
  rcases e with rfl | rfl
  · rw [absI_pos (by omega), show (1 + (j : Int) - 1).toNat = j by omega, List.getD_eq_getElem?_getD, List.getElem?_map, List.getElem?_range hj]
    rw [if_pos (by omega)]
    exact decide_eq_true (if_pos hl)
  · have e : absI (-(1 + (j : Int))) = 1 + (j : Int) := by rw [absI_neg, absI_pos (by omega)]
    rw [e, show (1 + (j : Int) - 1).toNat = j by omega, List.getD_eq_getElem?_getD, List.getElem?_map, List.getElem?_range hj]
    rw [if_neg (by omega)]
    refine decide_eq_true (if_neg fun z => ?_)
    have := one _ hl
    rw [Int.neg_neg] at this
    exact this z
theorem WayOk.sat {n : Nat} {way : List Int} {cs : List (List Int)} (h : WayOk n way cs) : ∃ W, Bits n W ∧ holdsC W cs = true := by
  refine ⟨wayW n way, wayW_bits n way, holds_iff.mpr fun c hc => ?_⟩
  obtain ⟨l, hl, hl2⟩ := h.hit c hc
  exact ⟨l, hl2, wayW_hd h.one (h.lt l hl) hl⟩
/-- a node: letters that were made so, and what is left of the clauses -/
structure NodeOk (n : Nat) (cs : List (List Int)) (z : List Int × List (List Int)) : Prop where
  lt : ∀ l ∈ z.1, Lt n l
  one : ∀ l ∈ z.1, -l ∉ z.1
  cov : ∀ c ∈ cs, (∃ l ∈ z.1, l ∈ c) ∨ ∃ d ∈ z.2, ∀ x ∈ d, x ∈ c
  off : ∀ d ∈ z.2, ∀ x ∈ d, x ∉ z.1 ∧ -x ∉ z.1
  ltc : LtCs n z.2
theorem NodeOk.root {n : Nat} {cs : List (List Int)} (h : LtCs n cs) : NodeOk n cs ([], cs) :=
  ⟨(fun _ h => nomatch h), (fun _ h => nomatch h), fun c hc => .inr ⟨c, hc, fun _ h => h⟩, fun _ _ _ _ => ⟨(fun h => nomatch h), (fun h => nomatch h)⟩, h⟩
theorem NodeOk.done {n : Nat} {cs : List (List Int)} {ls : List Int} (h : NodeOk n cs (ls, [])) : WayOk n ls cs :=
  ⟨h.lt, h.one, fun c hc => (h.cov c hc).elim id fun ⟨_, hd', _⟩ => nomatch hd'⟩
theorem NodeOk.next {n : Nat} {cs : List (List Int)} {z : List Int × List (List Int)} (h : NodeOk n cs z) {l : Int} {d : List Int} (hd' : d ∈ z.2) (hl : l ∈ d ∨ -l ∈ d) : NodeOk n cs (z.1 ++ [l], Toy.once z.2 l) := by
  have lt : Lt n l := by
    rcases hl with hl | hl
    · exact h.ltc d hd' l hl
    · have := (h.ltc d hd' _ hl).neg
      rw [Int.neg_neg] at this
      exact this
  have off : l ∉ z.1 ∧ -l ∉ z.1 := by
    rcases hl with hl | hl
    · exact h.off d hd' l hl
    · have := h.off d hd' _ hl
      rw [Int.neg_neg] at this
      exact ⟨this.2, this.1⟩
  refine ⟨fun x hx => ?_, fun x hx => ?_, fun c hc => ?_, fun e he x hx => ?_, lt_once h.ltc⟩
  · rcases List.mem_append.mp hx with hx | hx
    · exact h.lt x hx
    · rw [List.mem_singleton.mp hx]
      exact lt
  · intro hm
    rcases List.mem_append.mp hx with hx | hx
    · rcases List.mem_append.mp hm with hm | hm
      · exact h.one x hx hm
      · have e : l = -x := (List.mem_singleton.mp hm).symm
        refine off.2 ?_
        rw [e, Int.neg_neg]
        exact hx
    · rw [List.mem_singleton.mp hx] at hm
      rcases List.mem_append.mp hm with hm | hm
      · exact off.2 hm
      · exact lt_ne lt (List.mem_singleton.mp hm).symm
  · rcases h.cov c hc with ⟨x, hx, hxc⟩ | ⟨e, he, hs⟩
    · exact .inl ⟨x, List.mem_append_left _ hx, hxc⟩
    · by_cases m : l ∈ e
      · exact .inl ⟨l, List.mem_append_right _ (List.mem_singleton.mpr rfl), hs l m⟩
      · exact .inr ⟨_, mem_once.mpr ⟨e, he, m, rfl⟩, fun x hx => hs x (List.mem_filter.mp hx).1⟩
  · obtain ⟨c, hc, nm, rfl⟩ := mem_once.mp he
    obtain ⟨hx1, hx2⟩ := List.mem_filter.mp hx
    have hx2 : x ≠ -l := of_decide_eq_true hx2
    have o := h.off c hc x hx1
    refine ⟨fun hm => ?_, fun hm => ?_⟩
    · rcases List.mem_append.mp hm with hm | hm
      · exact o.1 hm
      · rw [List.mem_singleton.mp hm] at hx1
        exact nm hx1
    · rcases List.mem_append.mp hm with hm | hm
      · exact o.2 hm
      · refine hx2 ?_
        rw [← List.mem_singleton.mp hm, Int.neg_neg]
/-- what is chosen of a clause -/
def choiceL (c : List Int) : List Int := match c with
  | [] => []
  | [x] => [x]
  | x :: _ :: _ => [-x, x]
theorem choice_in {c : List Int} {l : Int} (h : l ∈ choiceL c) : l ∈ c ∨ -l ∈ c := by
  match c, h with
  | [x], h => exact .inl h
  | x :: y :: r, h =>
    simp only [choiceL, List.mem_cons, List.not_mem_nil, or_false] at h
    rcases h with rfl | rfl
    · exact .inr (by rw [Int.neg_neg]; exact List.mem_cons_self)
    · exact .inl List.mem_cons_self
theorem choice_some {n : Nat} {W : List Int} {cs : List (List Int)} (b : Bits n W) (lt : LtCs n cs) (h : holdsC W cs = true) {d : List Int} (hd' : d ∈ cs) : ∃ l ∈ choiceL d, Lt n l ∧ hd W l = true := by
  have h1 := holds_iff.mp h d hd'
  match d, hd', h1 with
  | [], _, ⟨x, hx, _⟩ => cases hx
  | [x], hd', ⟨y, hy, t⟩ =>
    rw [List.mem_singleton.mp hy] at t
    exact ⟨x, List.mem_singleton.mpr rfl, lt _ hd' x (List.mem_singleton.mpr rfl), t⟩
  | x :: y :: r, hd', _ =>
    have hx := lt _ hd' x List.mem_cons_self
    cases e : hd W x with
    | true => exact ⟨x, by simp [choiceL], hx, e⟩
    | false => exact ⟨-x, by simp [choiceL], hx.neg, by rw [hd_neg b hx, e]; rfl⟩
/-! ### all worths, rising -/
def allb : Nat → List (List Int)
  | 0 => [[]]
  | n + 1 => (allb n).flatMap fun p => [p ++ [0], p ++ [1]]
theorem allb_len : ∀ {n : Nat} {p : List Int}, p ∈ allb n → Bits n p
  | 0, p, h => by
    rw [List.mem_singleton.mp h]
    exact ⟨rfl, fun _ h => nomatch h⟩
  | n + 1, p, h => by
    obtain ⟨q, hq, hp⟩ := List.mem_flatMap.mp h
    obtain ⟨l, b⟩ := allb_len hq
    simp only [List.mem_cons, List.not_mem_nil, or_false] at hp
    rcases hp with rfl | rfl
    · refine ⟨by rw [List.length_append, l]; rfl, fun x hx => ?_⟩
      rcases List.mem_append.mp hx with hx | hx
      · exact b x hx
      · exact .inl (List.mem_singleton.mp hx)
    · refine ⟨by rw [List.length_append, l]; rfl, fun x hx => ?_⟩
      rcases List.mem_append.mp hx with hx | hx
      · exact b x hx
      · exact .inr (List.mem_singleton.mp hx)
theorem allb_mem : ∀ {n : Nat} {p : List Int}, Bits n p → p ∈ allb n
  | 0, p, ⟨l, _⟩ => by
    rw [List.eq_nil_of_length_eq_zero l]
    exact List.mem_singleton.mpr rfl
  | n + 1, p, ⟨l, b⟩ => by
    obtain ⟨q, x, rfl⟩ : ∃ (q : List Int) (x : Int), p = q ++ [x] := ⟨_, _, (List.dropLast_concat_getLast (fun z => by rw [z] at l; cases l)).symm⟩
    have lq : q.length = n := by
      rw [List.length_append] at l
      exact Nat.succ.inj l
    refine List.mem_flatMap.mpr ⟨q, allb_mem ⟨lq, fun y hy => b y (List.mem_append_left _ hy)⟩, ?_⟩
    rcases b x (List.mem_append_right _ (List.mem_singleton.mpr rfl)) with rfl | rfl <;> simp
/-- the clauses behind the first worths -/
def resW (cs : List (List Int)) (p : List Int) : List (List Int) := (List.range p.length).foldl (fun acc (i : Nat) => once acc (if p.getD i 0 = 1 then 1 + (i : Int) else -(1 + (i : Int)))) cs
theorem res_snoc (cs : List (List Int)) (p : List Int) (x : Int) : resW cs (p ++ [x]) = once (resW cs p) (if x = 1 then 1 + (p.length : Int) else -(1 + (p.length : Int))) := by
  unfold resW
  rw [List.length_append, List.length_singleton, List.range_succ, List.foldl_append]
  have e1 : ∀ (l : List Nat) (acc : List (List Int)), (∀ i ∈ l, i < p.length) → l.foldl (fun acc (i : Nat) => once acc (if (p ++ [x]).getD i 0 = 1 then 1 + (i : Int) else -(1 + (i : Int)))) acc = l.foldl (fun acc (i : Nat) => once acc (if p.getD i 0 = 1 then 1 + (i : Int) else -(1 + (i : Int)))) acc := by
    intro l
    induction l with
    | nil => intro _ _; rfl
    | cons a r ih =>
      intro acc h
      have ha := h a List.mem_cons_self
      have e : (p ++ [x]).getD a 0 = p.getD a 0 := by
        rw [List.getD_eq_getElem?_getD, List.getD_eq_getElem?_getD, List.getElem?_append_left ha]
      rw [List.foldl_cons, List.foldl_cons, e]
      exact ih _ fun i hi => h i (List.mem_cons_of_mem _ hi)
  rw [e1 _ _ fun i hi => List.mem_range.mp hi]
  show once _ _ = _
  have e2 : (p ++ [x]).getD p.length 0 = x := by
    rw [List.getD_eq_getElem?_getD, List.getElem?_append_right (Nat.le_refl _), Nat.sub_self]
    rfl
  rw [e2]
def Sat (n : Nat) (cs : List (List Int)) : Prop := ∃ W, Bits n W ∧ holdsC W cs = true
theorem lt_res {n : Nat} {cs : List (List Int)} (h : LtCs n cs) (p : List Int) : LtCs n (resW cs p) := by
  unfold resW
  generalize List.range p.length = l
  revert h
  induction l generalizing cs with
  | nil => exact fun h => h
  | cons a r ih => exact fun h => ih (lt_once h)

theorem res_far {n : Nat} {cs : List (List Int)} (h : LtCs n cs) : ∀ (k : Nat) (p : List Int), p.length = k → ∀ d ∈ resW cs p, ∀ x ∈ d, (k : Int) < absI x
  | 0, p, l => by
    rw [List.eq_nil_of_length_eq_zero l]
    intro d hd' x hx
    have := (h d hd' x hx).1
    omega
  | k + 1, p, l => by
    obtain ⟨q, y, rfl⟩ : ∃ (q : List Int) (y : Int), p = q ++ [y] := ⟨_, _, (List.dropLast_concat_getLast (fun z => by rw [z] at l; cases l)).symm⟩
    have lq : q.length = k := by
      rw [List.length_append] at l
      exact Nat.succ.inj l
    have ih := res_far h k q lq
    intro d hd' x hx
    rw [res_snoc, lq] at hd'
    obtain ⟨c, hc, nm, rfl⟩ := mem_once.mp hd'
    obtain ⟨hx1, hx2⟩ := List.mem_filter.mp hx
    have hx2 := of_decide_eq_true hx2
    have i1 := ih c hc x hx1
    have n1 : x ≠ (if y = 1 then 1 + (k : Int) else -(1 + (k : Int))) := fun e => nm (e ▸ hx1)
    have n2 : absI x ≠ 1 + (k : Int) := by
      intro e
      unfold absI at e
      split at n1 <;> split at e <;> simp_all <;> omega
    omega
theorem hd_take {V : List Int} {k : Nat} {x y : Int} {q : List Int} (hl : q.length = k) (h : V.take (k + 1) = q ++ [y]) (hy : y = 0 ∨ y = 1) : hd V (if y = 1 then 1 + (k : Int) else -(1 + (k : Int))) = true := by
  have e : V.getD k 0 = y := by
    have h1 : (V.take (k + 1))[k]? = some y := by
      rw [h, List.getElem?_append_right (by omega), hl, Nat.sub_self]
      rfl
    rw [List.getElem?_take_of_lt (Nat.lt_succ_self k)] at h1
    rw [List.getD_eq_getElem?_getD, h1]
    rfl
  unfold hd
  rcases hy with rfl | rfl
  · rw [if_neg (by decide), absI_neg, absI_pos (by omega), show (1 + (k : Int) - 1).toNat = k by omega, e, if_neg (by omega)]
    rfl
  · rw [if_pos rfl, absI_pos (by omega), show (1 + (k : Int) - 1).toNat = k by omega, e, if_pos (by omega)]
    rfl
theorem res_agree {n : Nat} {cs : List (List Int)} {V : List Int} (b : Bits n V) (h : LtCs n cs) : ∀ (k : Nat) (p : List Int), p.length = k → k ≤ n → V.take k = p → holdsC V (resW cs p) = holdsC V cs
  | 0, p, l, _, _ => by
    rw [List.eq_nil_of_length_eq_zero l]
    rfl
  | k + 1, p, l, hk, ht => by
    obtain ⟨q, y, rfl⟩ : ∃ (q : List Int) (y : Int), p = q ++ [y] := ⟨_, _, (List.dropLast_concat_getLast (fun z => by rw [z] at l; cases l)).symm⟩
    have lq : q.length = k := by
      rw [List.length_append] at l
      exact Nat.succ.inj l
    have hy : y = 0 ∨ y = 1 := b.2 y (List.mem_of_mem_take (ht ▸ List.mem_append_right _ (List.mem_singleton.mpr rfl)))
    have tq : V.take k = q := by
      have := congrArg (List.take k) ht
      rw [List.take_take, Nat.min_eq_left (Nat.le_succ k), List.take_append_of_le_length (by omega), List.take_of_length_le (Nat.le_of_eq lq : q.length ≤ k)] at this
      exact this
    have lt : Lt n (if y = 1 then 1 + (k : Int) else -(1 + (k : Int))) := by
      have := Lt.nat (n := n) (j := k) (by omega)
      split
      · exact this
      · exact this.neg
    rw [res_snoc, lq, holds_once b lt (hd_take (x := 0) lq ht hy)]
    exact res_agree b h k q lq (by omega) tq
theorem sat_res {n : Nat} {cs : List (List Int)} (h : LtCs n cs) {p : List Int} (hp : p.length ≤ n) (bp : ∀ x ∈ p, x = 0 ∨ x = 1) : Sat n (resW cs p) ↔ ∃ V, Bits n V ∧ V.take p.length = p ∧ holdsC V cs = true := by
  constructor
  · rintro ⟨W, bW, hW⟩
    have bV : Bits n (p ++ W.drop p.length) := by
      refine ⟨by rw [List.length_append, List.length_drop, bW.1]; omega, fun x hx => ?_⟩
      rcases List.mem_append.mp hx with hx | hx
      · exact bp x hx
      · exact bW.2 x (List.mem_of_mem_drop hx)
    have tV : (p ++ W.drop p.length).take p.length = p := by rw [List.take_append_of_le_length (Nat.le_refl _), List.take_length]
    refine ⟨_, bV, tV, ?_⟩
    rw [← res_agree bV h p.length p rfl hp tV]
    refine holds_iff.mpr fun d hd' => ?_
    obtain ⟨x, hx, t⟩ := holds_iff.mp hW d hd'
    refine ⟨x, hx, ?_⟩
    have far := res_far h p.length p rfl d hd' x hx
    have e : (p ++ W.drop p.length).getD (absI x - 1).toNat 0 = W.getD (absI x - 1).toNat 0 := by
      rw [List.getD_eq_getElem?_getD, List.getD_eq_getElem?_getD, List.getElem?_append_right (by omega), List.getElem?_drop]
      congr 2
      omega
    unfold hd at t ⊢
    rw [e]
    exact t
  · rintro ⟨V, bV, tV, hV⟩
    exact ⟨V, bV, by rw [res_agree bV h p.length p rfl hp tV]; exact hV⟩
def ansL (n : Nat) (cs : List (List Int)) : List (List Int) := (allb n).filter fun p => holdsC p cs
open Classical in
noncomputable def stL (n : Nat) (cs : List (List Int)) : Nat → List (List Int)
  | 0 => if Sat n cs then [[]] else []
  | k + 1 => (stL n cs k).flatMap fun p => [p ++ [0], p ++ [1]].filter fun q => decide (Sat n (resW cs q))
open Classical in
theorem st_filter {n : Nat} {cs : List (List Int)} (h : LtCs n cs) : ∀ k, k ≤ n → stL n cs k = (allb k).filter fun p => decide (Sat n (resW cs p))
  | 0, _ => by
    show (if Sat n cs then [[]] else []) = ([[]] : List (List Int)).filter fun p => decide (Sat n (resW cs p))
    have e : resW cs [] = cs := rfl
    by_cases s : Sat n cs
    · rw [if_pos s, List.filter_cons, if_pos (by rw [e]; exact decide_eq_true s)]
      rfl
    · rw [if_neg s, List.filter_cons, if_neg (by rw [e, decide_eq_false s]; decide)]
      rfl
  | k + 1, hk => by
    have ih := st_filter h k (by omega)
    have up : ∀ p ∈ allb k, ∀ x : Int, (x = 0 ∨ x = 1) → Sat n (resW cs (p ++ [x])) → Sat n (resW cs p) := by
      intro p hp x hx s
      obtain ⟨lp, bp⟩ := allb_len hp
      have l1 : (p ++ [x]).length = k + 1 := by rw [List.length_append, lp]; rfl
      obtain ⟨V, bV, tV, hV⟩ := (sat_res h (p := p ++ [x]) (by omega) fun y hy => (List.mem_append.mp hy).elim (bp y) fun hy => by rw [List.mem_singleton.mp hy]; exact hx).mp s
      refine (sat_res h (by omega) bp).mpr ⟨V, bV, ?_, hV⟩
      have := congrArg (List.take k) tV
      rw [l1, List.take_take, Nat.min_eq_left (Nat.le_succ k), List.take_append_of_le_length (by omega), List.take_of_length_le (Nat.le_of_eq lp : p.length ≤ k)] at this
      rw [lp]
      exact this
    show (stL n cs k).flatMap _ = _
    rw [ih]
    show _ = ((allb k).flatMap fun p => [p ++ [0], p ++ [1]]).filter _
    have key : ∀ l : List (List Int), (∀ p ∈ l, p ∈ allb k) → (l.filter fun p => decide (Sat n (resW cs p))).flatMap (fun p => [p ++ [0], p ++ [1]].filter fun q => decide (Sat n (resW cs q))) = (l.flatMap fun p => [p ++ [0], p ++ [1]]).filter fun q => decide (Sat n (resW cs q)) := by
      intro l
      induction l with
      | nil => intro _; rfl
      | cons a r ih2 =>
        intro hl
        have i2 := ih2 fun p hp => hl p (List.mem_cons_of_mem _ hp)
        rw [List.flatMap_cons, List.filter_append, ← i2, List.filter_cons]
        by_cases s : Sat n (resW cs a)
        · rw [if_pos (decide_eq_true s), List.flatMap_cons]
        · rw [if_neg (by rw [decide_eq_false s]; decide)]
          have e : ([a ++ [0], a ++ [1]].filter fun q => decide (Sat n (resW cs q))) = [] := by
            rw [List.filter_eq_nil_iff]
            intro q hq
            have ha := hl a List.mem_cons_self
            simp only [List.mem_cons, List.not_mem_nil, or_false] at hq
            rcases hq with rfl | rfl
            · rw [decide_eq_false fun z => s (up a ha 0 (.inl rfl) z)]
              decide
            · rw [decide_eq_false fun z => s (up a ha 1 (.inr rfl) z)]
              decide
          rw [e, List.nil_append]
    exact key (allb k) fun p hp => hp
open Classical in
theorem st_ans {n : Nat} {cs : List (List Int)} (h : LtCs n cs) : stL n cs n = ansL n cs := by
  rw [st_filter h n (Nat.le_refl n)]
  unfold ansL
  refine List.filter_congr fun p hp => ?_
  obtain ⟨lp, bp⟩ := allb_len hp
  rw [Bool.eq_iff_iff, decide_eq_true_eq, sat_res h (by omega) bp]
  constructor
  · rintro ⟨V, bV, tV, hV⟩
    rw [lp, List.take_of_length_le (Nat.le_of_eq bV.1)] at tV
    rw [← tV]
    exact hV
  · intro hV
    exact ⟨p, ⟨lp, bp⟩, List.take_length, hV⟩
theorem ans_mem {n : Nat} {cs : List (List Int)} {p : List Int} : p ∈ ansL n cs ↔ Bits n p ∧ holdsC p cs = true := by
  unfold ansL
  rw [List.mem_filter]
  exact ⟨fun h => ⟨allb_len h.1, h.2⟩, fun h => ⟨allb_mem h.1, h.2⟩⟩
end Toy

-- part: ZM0
namespace Toy
open PySem L2
theorem Same.upl2 {H H' : Hp} {a : Addr} {o : HO} (e : Same H H') (n : H a = none) : Same H (upd H' a o) := fun b u hb => by
  rw [upd_ne (ne_of_none hb n)]
  exact e b u hb
/-! ### all worths, one half behind the other -/
def halves : Nat → List (List Int)
  | 0 => [[]]
  | n + 1 => (halves n).map (· ++ [0]) ++ (halves n).map (· ++ [1])
theorem perm_two {α β : Type} (f g : α → β) : ∀ l : List α, (l.map f ++ l.map g).Perm (l.flatMap fun p => [f p, g p])
  | [] => .nil
  | a :: r => by
    rw [List.map_cons, List.map_cons, List.cons_append, List.flatMap_cons]
    refine List.Perm.cons _ ?_
    refine List.perm_middle.trans (List.Perm.cons _ (perm_two f g r))
theorem perm_flat {α β : Type} (f : α → List β) : ∀ {l m : List α}, l.Perm m → (l.flatMap f).Perm (m.flatMap f) := fun h => by
  induction h with
  | nil => exact .nil
  | cons a _ ih => rw [List.flatMap_cons, List.flatMap_cons]; exact ih.append_left _
  | swap a b l =>
    rw [List.flatMap_cons, List.flatMap_cons, List.flatMap_cons, List.flatMap_cons, ← List.append_assoc, ← List.append_assoc]
    exact List.perm_append_comm.append_right _
  | trans _ _ h1 h2 => exact h1.trans h2
theorem halves_perm : ∀ n, (halves n).Perm (allb n)
  | 0 => List.Perm.refl _
  | n + 1 => (perm_two _ _ (halves n)).trans (perm_flat _ (halves_perm n))
theorem halves_len : ∀ n, (halves n).length = 2 ^ n
  | 0 => rfl
  | n + 1 => by
    show ((halves n).map (· ++ [0]) ++ (halves n).map (· ++ [1])).length = _
    rw [List.length_append, List.length_map, List.length_map, halves_len n, Nat.pow_succ]
    omega
theorem halves_bits {n : Nat} {p : List Int} (h : p ∈ halves n) : Bits n p := allb_len ((halves_perm n).mem_iff.mp h)
section
variable {P : Program} {w : World} {K : PySem.W.Frag} {mg : Str → Option Value} {base : Heap} {C : Addr}
theorem p_catR {H : Hp} {Q : VK} {a b : Addr} {xs ys : List V} (ha : SqT K H a xs) (hb : H b = some (.tup ys)) (ny : ys ≠ []) (hz : xs.length + ys.length ≤ sizeLine) (q : ∀ r H', Same H H' → H' r = some (.tup (xs ++ ys)) → Q (.ref r) H') : rCatA K (.ref a) (.ref b) H Q :=
  ⟨a, b, xs, ys, rfl, rfl, ha, SqT.of hb, hz, fun e => by subst e; exact q b H (Same.refl H) hb, fun _ e => absurd e ny, fun _ _ p hp => q p _ (Same.new hp) upd_same⟩
/-- [x + (b,) for x in found] -/
theorem grow_step {H Hj : Hp} {D : Addr} {xs : List Addr} {ps : List (List Int)} {j : Nat} {x : V} {b : Int} (hD : H D = none) (tx : TupsAt H xs ps) (hk : ∀ p ∈ ps, p.length ≤ 12) (hn : ps.length ≤ 4096) (hj : (xs.map V.ref)[j]? = some x) (ej : Same H Hj)
    (h : ∃ ys, Hj D = some (.lst (ys.map V.ref)) ∧ ys.length = j ∧ TupsAt Hj ys ((ps.take j).map (· ++ [b]))) {R : V → Hp → Prop}
    (q : ∀ (y : V) (H' : Hp), (∃ acc, H' D = some (.lst acc) ∧ acc.length < sizeLine ∧ (Same H (upd H' D (.lst (acc ++ [y]))) ∧ ∃ ys, upd H' D (.lst (acc ++ [y])) D = some (.lst (ys.map V.ref)) ∧ ys.length = j + 1 ∧ TupsAt (upd H' D (.lst (acc ++ [y]))) ys ((ps.take (j + 1)).map (· ++ [b])))) → R y H') :
    tTup (tCons (tC (.int b)) tNil) [] Hj fun y H2 => rCatA K x y H2 R := by
  obtain ⟨ys, hDj, ly, ty⟩ := h
  have eZ : sizeLine = 16777216 := rfl
  rw [List.getElem?_map] at hj
  cases ez : xs[j]? with
  | none => rw [ez] at hj; cases hj
  | some a =>
  rw [ez] at hj
  cases hj
  have hjl : j < xs.length := (List.getElem?_eq_some_iff.mp ez).1
  have lx := TupsAt.len tx
  obtain ⟨p, hp, ha⟩ := TupsAt.get (TupsAt.same ej tx) ez
  have lp := hk p (List.mem_of_getElem? hp)
  refine ⟨by show 1 ≤ sizeLine; decide, fun p1 hp1 => ?_⟩
  refine p_catR (Same.sqt (Same.new hp1) (SqT.of ha)) upd_same (by simp) (by rw [List.length_map]; show _ + 1 ≤ _; omega) fun r H' s' hr => ?_
  have sj := Same.trans (Same.new (o := .tup [V.int b]) hp1) s'
  have hDk := sj _ _ hDj
  refine q (.ref r) H' ⟨_, hDk, by rw [List.length_map]; omega, Same.upl2 (Same.trans ej sj) hD, ys ++ [r], by rw [upd_same, List.map_append]; rfl, by rw [List.length_append, ly]; rfl, ?_⟩
  rw [List.take_add_one, hp, Option.toList_some, List.map_append]
  refine pairApp2 (TupsAt.upd2 hDk (fun ys z => by cases z) (TupsAt.same sj ty)) (.cons ?_ .nil)
  rw [upd_ne (fun z => by rw [z, hDk] at hr; cases hr), hr, List.map_append]
  rfl
def tG0 (K : PySem.W.Frag) (i : Nat) : TE := tOp (rCatA K) (tVar i) (tTup (tCons (tC (.int 0)) tNil))
def tG1 (K : PySem.W.Frag) (i : Nat) : TE := tOp (rCatA K) (tVar i) (tTup (tCons (tC (.int 1)) tNil))
theorem lex_irr' : ∀ p : List Int, HT.lexLt p p = false
  | [] => rfl
  | x :: r => by rw [HT.lexLt_cons, if_pos rfl]; exact lex_irr' r
theorem lex_snoc' {p q : List Int} (h : p.length = q.length) (a b : Int) : HT.lexLt (p ++ [a]) (q ++ [b]) = if p = q then decide (a < b) else HT.lexLt p q := by
  induction p generalizing q with
  | nil =>
    cases q with
    | nil =>
      show (if a = b then HT.lexLt [] [] else decide (a < b)) = _
      rw [if_pos rfl]
      by_cases e : a = b
      · rw [if_pos e, e]
        show false = _
        rw [decide_eq_false (by omega)]
      · rw [if_neg e]
    | cons y r => cases h
  | cons x r ih =>
    cases q with
    | nil => cases h
    | cons y s =>
      have h' : r.length = s.length := Nat.succ.inj h
      rw [List.cons_append, List.cons_append, HT.lexLt_cons, HT.lexLt_cons, ih h']
      by_cases e : x = y
      · subst e
        rw [if_pos rfl, if_pos rfl]
        by_cases e2 : r = s
        · rw [if_pos e2, if_pos (by rw [e2])]
        · rw [if_neg e2, if_neg (fun z => e2 (List.cons.inj z).2)]
      · rw [if_neg e, if_neg e, if_neg (fun z => e (List.cons.inj z).1)]
theorem allb_rise' : ∀ n, (allb n).Pairwise fun p q => HT.lexLt p q = true
  | 0 => List.pairwise_singleton _ _
  | n + 1 => by
    show List.Pairwise _ ((allb n).flatMap fun p => [p ++ [0], p ++ [1]])
    rw [List.pairwise_flatMap]
    refine ⟨fun p _ => List.pairwise_pair.mpr ?_, (allb_rise' n).imp_of_mem fun {p q} hp hq h x hx y hy => ?_⟩
    · rw [lex_snoc' rfl, if_pos rfl]
      rfl
    · have l : p.length = q.length := (allb_len hp).1.trans (allb_len hq).1.symm
      have ne : p ≠ q := fun e => by rw [e, lex_irr'] at h; cases h
      simp only [List.mem_cons, List.not_mem_nil, or_false] at hx hy
      rcases hx with rfl | rfl <;> rcases hy with rfl | rfl <;> rw [lex_snoc' l, if_neg ne] <;> exact h
theorem srt_uniq' : ∀ {l m : List (List Int)}, l.Perm m → m.Pairwise (fun p q => HT.lexLt p q = true) → l.Pairwise (fun p q => HT.lexLt q p = false) → l = m
  | [], m, p, _, _ => (List.Perm.nil_eq p)
  | x :: r, [], p, _, _ => by
    have := p.length_eq
    cases this
  | x :: r, y :: s, p, hm, hl => by
    obtain ⟨m1, m2⟩ := List.pairwise_cons.mp hm
    obtain ⟨l1, l2⟩ := List.pairwise_cons.mp hl
    have e : x = y := by
      have hx : x ∈ y :: s := p.mem_iff.mp List.mem_cons_self
      have hy : y ∈ x :: r := p.mem_iff.mpr List.mem_cons_self
      rcases List.mem_cons.mp hx with e | hx
      · exact e
      · rcases List.mem_cons.mp hy with e | hy
        · exact e.symm
        · have a := m1 x hx
          have b := l1 y hy
          rw [a] at b
          cases b
    subst e
    rw [srt_uniq' p.cons_inv m2 l2]
theorem halves_all {n : Nat} {S : List (List Int)} (pm : S.Perm (halves n)) (r : S.Pairwise fun p q => HT.lexLt q p = false) : S = allb n := srt_uniq' (pm.trans (halves_perm n)) (allb_rise' n) r
abbrev sBi : Stmt := s__law_bits
abbrev nBi : List Str := ["many", "found", "k", "row"]
theorem scBi : FnScope nBi ["many"] (defScope sBi) := ⟨rfl, rfl, rfl, by decide +kernel, rfl, by decide +kernel, by decide +kernel⟩
/-- all worths, rising -/
def spBi : Sp := fun vs H Q _ => ∃ n : Nat, vs = [.int (n : Int)] ∧ n ≤ 12 ∧ ∀ (l : Addr) (xs : List Addr) (H' : Hp), Same H H' → H l = none → H' l = some (.lst (xs.map V.ref)) → TupsAt H' xs (allb n) → Q (.ref l) H'
theorem ok_bi {f : Addr} {fd : FuncData} (F : Fun K "_law_bits" "_law_bits" sBi f fd) (B : Bl mg) : FnOk P w K mg base CX0 1 f fd ["many"] spBi := by
  refine F.ok scBi (fun vs H Q E h => ?_) (fun cdv A outer s H vs Q E hr h => ?_)
  · obtain ⟨n, rfl, _⟩ := h
    rfl
  · obtain ⟨n, rfl, n12, q⟩ := h
    refine ⟨_, pss_cons (ps_set (i := 1) scBi.nd rfl (Or.inl rfl) (pe_lst (pa_cons (pe_tup pa_nil) pa_nil)))
      (pss_cons (ps_for PassesOwn.never rfl (pi_range1 rfl B.range (pa_cons (pv 0) pa_nil)) (pg_name (i := 2) scBi.nd rfl (Or.inl rfl))
        (pss_one (ps_set (i := 1) scBi.nd rfl (Or.inl rfl) (pe_op op_cat (pe_lc (own := [("row", 3)]) (g := gName 3) (tt := tYes) (te := tG0 K 3) rfl scBi.nd (pi_list (pv 1)) (blkOk_by (own := [("row", 3)]) (N := nBi) (sc := defScope sBi) (by decide +kernel))
            (fun _ _ _ _ _ => pg_name (i := 3) scBi.nd rfl (Or.inl rfl)) (fun _ _ _ _ _ => pts_nil) (fun _ _ _ _ _ => pe_op op_catA (pv 3) (pe_tup (pa_cons pe_int pa_nil))))
          (pe_lc (own := [("row", 3)]) (g := gName 3) (tt := tYes) (te := tG1 K 3) rfl scBi.nd (pi_list (pv 1)) (blkOk_by (own := [("row", 3)]) (N := nBi) (sc := defScope sBi) (by decide +kernel))
            (fun _ _ _ _ _ => pg_name (i := 3) scBi.nd rfl (Or.inl rfl)) (fun _ _ _ _ _ => pts_nil) (fun _ _ _ _ _ => pe_op op_catA (pv 3) (pe_tup (pa_cons pe_int pa_nil))))))))
      (pss_one (ps_ret (pe_callB (cr_sortedTL hr.units) (by rfl) B.sorted (by decide +kernel) (pa_cons (pv 1) pa_nil))))), ?_⟩
    show tSeq _ _ _ [some (.int (n : Int)), none, none, none] H
    have eZ : sizeLine = 16777216 := rfl
    refine seq_gen (fun σ' H' => ∃ (l : Addr) (xs : List Addr), σ' = [some (.int (n : Int)), some (.ref l), none, none] ∧ Same H H' ∧ H' l = some (.lst (xs.map V.ref)) ∧ TupsAt H' xs (halves 0)) (fun nx hnx => ?_) ?_
    · refine ⟨Nat.zero_le _, fun p hp => ⟨by show 1 ≤ sizeLine; decide, fun l hl => hnx _ _ ⟨l, [p], rfl, Same.trans (Same.new hp) (Same.new hl), upd_same, .cons (Same.new hl _ _ upd_same) .nil⟩⟩⟩
    rintro σ' H1 ⟨l, xs, rfl, s1, hl, tx⟩
    refine seq_gen (fun σ' H' => ∃ (l2 l3 : Option V) (l : Addr) (xs : List Addr), σ' = [some (.int (n : Int)), some (.ref l), l2, l3] ∧ Same H H' ∧ H' l = some (.lst (xs.map V.ref)) ∧ TupsAt H' xs (halves n)) (fun nx hnx => ?_) ?_
    · refine ⟨_, rfl, (n : Int), rfl, by omega, by omega, ?_⟩
      rw [Int.toNat_natCast]
      refine for_range (lo := 0) (n := n) (fun k σ H' => ∃ (l2 l3 : Option V) (l : Addr) (xs : List Addr), σ = [some (.int (n : Int)), some (.ref l), l2, l3] ∧ Same H H' ∧ H' l = some (.lst (xs.map V.ref)) ∧ TupsAt H' xs (halves k)) ⟨_, _, l, xs, rfl, s1, hl, tx⟩ ?_ ?_
      · rintro k σ H2 hk ⟨l2, l3, l, xs, rfl, s2, hl2, tx2⟩
        have p12 : 2 ^ k ≤ 4096 := Nat.pow_le_pow_right (n := 2) (by decide) (show k ≤ 12 by omega)
        have hb : ∀ p ∈ halves k, p.length ≤ 12 := fun p hp => by have := (halves_bits hp).1; omega
        have hn : (halves k).length ≤ 4096 := by rw [halves_len]; exact p12
        have lx := TupsAt.len tx2
        refine ⟨_, rfl, l, rfl, ⟨_, SqL.of hl2⟩, fun D hD => lc_list (K := K) (a := l) (xs := xs.map V.ref) (fun j Hj => Same H2 Hj ∧ ∃ ys, Hj D = some (.lst (ys.map V.ref)) ∧ ys.length = j ∧ TupsAt Hj ys (((halves k).take j).map (· ++ [0]))) ⟨Same.new hD, [], upd_same, rfl, .nil⟩ (fun j Hj _ ⟨e, _⟩ => SqL.of (e _ _ hl2)) (fun j x Hj hj ⟨ej, h⟩ => ⟨rfl, yesT ⟨_, rfl, grow_step hD tx2 hb hn hj ej h fun y H' h => h⟩⟩) ?_⟩
        rintro H3 ⟨s3, ya, hDa, lya, tya⟩
        refine ⟨_, rfl, l, rfl, ⟨_, SqL.of (s3 _ _ hl2)⟩, fun D2 hD2 => lc_list (K := K) (a := l) (xs := xs.map V.ref) (fun j Hj => Same H3 Hj ∧ ∃ ys, Hj D2 = some (.lst (ys.map V.ref)) ∧ ys.length = j ∧ TupsAt Hj ys (((halves k).take j).map (· ++ [1]))) ⟨Same.new hD2, [], upd_same, rfl, .nil⟩ (fun j Hj _ ⟨e, _⟩ => SqL.of (e _ _ (s3 _ _ hl2))) (fun j x Hj hj ⟨ej, h⟩ => ⟨rfl, yesT ⟨_, rfl, grow_step hD2 (TupsAt.same s3 tx2) hb hn hj ej h fun y H' h => h⟩⟩) ?_⟩
        rintro H4 ⟨s4, yb, hDb, lyb, tyb⟩
        rw [List.length_map] at lya lyb tya tyb
        rw [lx, List.take_length] at tya tyb
        refine ⟨D, D2, _, _, rfl, rfl, s4 _ _ hDa, hDb, by rw [List.length_map, List.length_map]; omega, fun z hz => ?_⟩
        refine ⟨_, _, z, ya ++ yb, rfl, Same.trans s2 (Same.trans s3 (Same.trans s4 (Same.new hz))), by rw [upd_same, List.map_append], ?_⟩
        exact TupsAt.same (Same.new hz) (pairApp2 (TupsAt.same s4 tya) tyb)
      · rintro σ H2 ⟨l2, l3, l, xs, rfl, s2, hl2, tx2⟩
        exact hnx _ _ ⟨_, _, l, xs, rfl, s2, hl2, tx2⟩
    rintro σ' H2 ⟨l2, l3, l, xs, rfl, s2, hl2, tx2⟩
    walk_at "rd"
    refine ⟨l, xs, _, rfl, SqL.of hl2, tx2, fun ys' p pm pw hp => ?_⟩
    have mm : ∀ b ∈ ys', H2 b = some (.tup ((ctOf H2 b).map V.int)) := fun b hb => TupsAt.mem tx2 b (pm.mem_iff.mp hb)
    have sp := Same.new (o := .lst (ys'.map V.ref)) hp
    have eS : ys'.map (ctOf H2) = allb n := by
      refine halves_all ?_ (List.pairwise_map.mpr pw)
      have := pm.map (ctOf H2)
      rw [TupsAt.ct tx2] at this
      exact this
    refine q p ys' _ (Same.trans s2 sp) (Same.none2 s2 hp) upd_same ?_
    rw [← eS]
    exact TupsAt.same sp (TupsAt.of_mem mm)
end
end Toy

-- part: ZL3
namespace Toy
open PySem L2
theorem okNZ {P : Program} {w : World} {K : PySem.W.Frag} {mg : Str → Option Value} {base : Heap} {x qual : Str} {params : Arguments} {body : List Stmt} {scope : Scope} {dvs : List V} {kws : List (Str × V)} {f : Addr} {fd : FuncData} {N ps : List Str} {k : Nat} {sp : Sp} (F : FunD K x qual params body scope dvs kws f fd) (S : FnScope N ps scope) (len : ∀ vs H Q E, sp vs H Q E → vs.length = ps.length)
    (hb : ∀ (cdv : Value) (A : Around) (outer : List Env) (s : Shared) (H : Hp) (vs : List V) (Q : VK) (E : XK), Room k (A.deeper (PyProof.Rows.envOfC qual scope s.heap.objs.size f cdv)) → sp vs H Q E →
      ∃ t, PSs (cxOf CX0 P w K mg base N qual scope f cdv A outer s H E).nox body t ∧ t { nx := fun _ H' => Q .non H', rt := Q } (start N vs) H) : FnOk P w K mg base CX0 (k + 1) f fd ps sp :=
  FunD.ok F S len fun cdv A outer s H vs Q E hr hsp => by
    obtain ⟨t, h, q⟩ := hb cdv A outer s H vs Q E hr hsp
    exact ⟨t, h.nox, q⟩
section
variable {P : Program} {w : World} {K : PySem.W.Frag} {mg : Str → Option Value} {base : Heap}
/-! ### orders -/
/-- an order: None, or a list or tuple of letters, one of each truth -/
def OrdAt (K : PySem.W.Frag) (H : Hp) (n : Nat) (y : V) (O : List Int) : Prop := (y = .non ∧ O = up n) ∨ ∃ p, y = .ref p ∧ SqA K H p (O.map V.int) ∧ Trn n O
theorem OrdAt.trn {H : Hp} {n : Nat} {y : V} {O : List Int} (h : OrdAt K H n y O) : Trn n O := by
  rcases h with ⟨_, rfl⟩ | ⟨_, _, _, t⟩
  · exact trn_up n
  · exact t
theorem OrdAt.same {H H' : Hp} {n : Nat} {y : V} {O : List Int} (e : Same H H') (h : OrdAt K H n y O) : OrdAt K H' n y O := by
  rcases h with h | ⟨p, h1, h2, h3⟩
  · exact .inl h
  · exact .inr ⟨p, h1, SqA.same e h2, h3⟩
abbrev sIo : Stmt := s_is_order
theorem scIo : FnScope ["thing", "many"] ["thing", "many"] (defScope sIo) := ⟨rfl, rfl, rfl, by decide +kernel, rfl, by decide +kernel, by decide +kernel⟩
def spIo (K : PySem.W.Frag) : Sp := fun vs H Q _ => ∃ (p : Addr) (n : Nat) (O : List Int), vs = [.ref p, .int n] ∧ SqA K H p (O.map V.int) ∧ Trn n O ∧ 1 ≤ n ∧ n ≤ 400 ∧ ∀ H', Same H H' → Q (.bl true) H'
theorem ok_io {f fL fT : Addr} {fd fdL fdT : FuncData} (F : Fun K "is_order" "is_order" sIo f fd) (B : Bl mg) (L' : Df K mg "is_list" sIsList ["thing"] fL fdL) (T : Df K mg "is_turn" sTurn ["thing", "many"] fT fdT) (GT : FnOk P w K mg base CX0 3 fT fdT ["thing", "many"] (spTurn K)) :
    FnOk P w K mg base CX0 4 f fd ["thing", "many"] (spIo K) := by
  have GL : FnOk P w K mg base CX0 1 fL fdL ["thing"] (spIsList K) := ok_isList L'.F B
  refine F.ok scIo (fun vs H Q E h => ?_) (fun cdv A outer s H vs Q E hr h => ?_)
  · obtain ⟨p, n, O, rfl, _⟩ := h
    rfl
  · obtain ⟨p, n, O, rfl, hp, t, n1, n4, q⟩ := h
    refine ⟨_, pss_one (ps_ret (pe_and (pe_call GL (hr.mono (by decide)) rfl L'.g L'.F.kp L'.b .nil pass0 (pa_cons (pv 0) pa_nil)) (pe_one (pe_call GT hr rfl T.g T.F.kp T.b .nil pass0 (pa_cons (pe_callTy call_tuple_of (by rfl) B.tuple (by decide +kernel) (pa_cons (pv 0) pa_nil)) (pa_cons (pv 1) pa_nil)))))), ?_⟩
    show tRet _ _ [some (.ref p), some (.int n)] H
    walk_at "rd"
    obtain ⟨Ty, ty, hty⟩ := hp.ty
    refine ⟨.ref p, Ty, rfl, ty, fun H1 s1 => ?_⟩
    rw [hty]
    refine ⟨true, rfl, iteT ?_⟩
    have done : ∀ (a : Addr) (H2 : Hp), Same H H2 → SqT K H2 a (O.map V.int) → spTurn K [.ref a, .int n] H2 Q E0 := fun a H2 s2 h2 => by
      refine ⟨.ref a, n, some (O.map V.int), rfl, thing_ints h2 (by rw [t.len]; omega), fun H3 s3 => ?_⟩
      have e : thingB (some (O.map V.int)) (n : Int) = true := by
        have := turnB_of t n1 n4
        rw [t.len] at this
        exact this
      rw [e]
      exact q H3 (Same.trans s2 s3)
    rcases hp with hp | hp
    · exact ⟨p, _, rfl, .inl ⟨Same.seq s1 hp, fun a ha => done a _ (Same.trans s1 (Same.new ha)) (SqT.of upd_same)⟩⟩
    · exact ⟨p, _, rfl, .inr ⟨Same.sqt s1 hp, done p H1 s1 (Same.sqt s1 hp)⟩⟩
abbrev sLo : Stmt := s__letters_of
theorem scLo : FnScope ["order", "many"] ["order", "many"] (defScope sLo) := ⟨rfl, rfl, rfl, by decide +kernel, rfl, by decide +kernel, by decide +kernel⟩
def spLo (K : PySem.W.Frag) : Sp := fun vs H Q _ => ∃ (y : V) (n : Nat) (O : List Int), vs = [y, .int n] ∧ OrdAt K H n y O ∧ 1 ≤ n ∧ n ≤ 400 ∧ ∀ (a : Addr) (H' : Hp), Same H H' → SqT K H' a (O.map V.int) → Q (.ref a) H'
theorem ok_lo {f fL fT fS fI : Addr} {fd fdL fdT fdS fdI : FuncData} (F : Fun K "_letters_of" "_letters_of" sLo f fd) (B : Bl mg) (L' : Df K mg "is_list" sIsList ["thing"] fL fdL) (T : Df K mg "is_turn" sTurn ["thing", "many"] fT fdT) (GT : FnOk P w K mg base CX0 3 fT fdT ["thing", "many"] (spTurn K))
    (S : Df K mg "still" sStill ["many"] fS fdS) (I' : Df K mg "is_order" sIo ["thing", "many"] fI fdI) : FnOk P w K mg base CX0 5 f fd ["order", "many"] (spLo K) := by
  have GI : FnOk P w K mg base CX0 4 fI fdI ["thing", "many"] (spIo K) := ok_io I'.F B L' T GT
  have GS : FnOk P w K mg base CX0 1 fS fdS ["many"] spStill := ok_still S.F B
  refine F.ok scLo (fun vs H Q E h => ?_) (fun cdv A outer s H vs Q E hr h => ?_)
  · obtain ⟨y, n, O, rfl, _⟩ := h
    rfl
  · obtain ⟨y, n, O, rfl, ho, n1, n4, q⟩ := h
    refine ⟨_, pss_cons (ps_if (pt_cmpR op_isN (pv 0) pe_non (nomark _)) (pss_one (ps_ret (pe_call GS (hr.mono (by decide)) rfl S.g S.F.kp S.b .nil pass0 (pa_cons (pv 1) pa_nil)))) pss_nil)
      (pss_cons (ps_if (pt_not (pt_val (pe_call GI hr rfl I'.g I'.F.kp I'.b .nil pass0 (pa_cons (pv 0) (pa_cons (pv 1) pa_nil))))) (pss_one ps_never) pss_nil)
      (pss_one (ps_ret (pe_callTy call_tuple_of (by rfl) B.tuple (by decide +kernel) (pa_cons (pv 0) pa_nil))))), ?_⟩
    show tSeq _ _ _ [some y, some (.int n)] H
    walk_at "rd"
    rcases ho with ⟨rfl, rfl⟩ | ⟨p, rfl, hp, t⟩
    · refine ⟨trivial, ?_⟩
      rw [decide_eq_true rfl]
      refine iteT ?_
      refine ⟨n, rfl, by omega, by omega, fun a H1 s1 ha => q a H1 s1 ?_⟩
      rw [Int.toNat_natCast] at ha
      exact SqT.of ha
    · refine ⟨trivial, ?_⟩
      rw [decide_eq_false (fun z => by cases z)]
      refine iteF ?_
      walk_at "rd"
      refine ⟨p, n, O, rfl, hp, t, n1, n4, fun H1 s1 => ?_⟩
      refine ⟨true, rfl, iteF ?_⟩
      walk_at "rd"
      rcases hp with hp | hp
      · exact ⟨p, _, rfl, .inl ⟨Same.seq s1 hp, fun a ha => q a _ (Same.trans s1 (Same.new ha)) (SqT.of upd_same)⟩⟩
      · exact ⟨p, _, rfl, .inr ⟨Same.sqt s1 hp, q p H1 s1 (Same.sqt s1 hp)⟩⟩
/-! ### lesser -/
abbrev sLe : Stmt := s_lesser
theorem scLe : FnScope ["turn", "first", "order"] ["turn", "first", "order"] (defScope sLe) := ⟨rfl, rfl, rfl, by decide +kernel, rfl, by decide +kernel, by decide +kernel⟩
def spLe (K : PySem.W.Frag) : Sp := fun vs H Q _ => ∃ (a : Addr) (y : V) (n : Nat) (L O : List Int) (f : Int), vs = [.ref a, .int f, y] ∧ SqT K H a (L.map V.int) ∧ Trn n L ∧ 1 ≤ n ∧ n ≤ 200 ∧ OrdAt K H n y O ∧ 1 ≤ f ∧ f ≤ 2000000 ∧
  ∀ (B : List Int) (l : Addr) (bs : List Addr) (H' : Hp), Bk n L B → Same H H' → H l = none → H' l = some (.lst (bs.map V.ref)) → TupsAt H' bs (lesC (f + n - 1) (rowsUp B f (f + n - 1) O n)) → Q (.ref l) H'
theorem ok_le {f fR fC fO : Addr} {fd fdR fdC fdO : FuncData} (F : FunD K "lesser" "lesser" (defArgs sLe) (defBody sLe) (defScope sLe) [] [("order", .non)] f fd) (B : Bl mg) (R : Df K mg "refuse_no_turn" sRef ["thing"] fR fdR) (GR : FnOk P w K mg base CX0 4 fR fdR ["thing"] (spRef K))
    (C' : Df K mg "lesser_clauses" sLc ["turn", "first", "letters"] fC fdC) (GC : FnOk P w K mg base CX0 4 fC fdC ["turn", "first", "letters"] (spLc K)) (O' : Df K mg "_letters_of" sLo ["order", "many"] fO fdO) (GO : FnOk P w K mg base CX0 5 fO fdO ["order", "many"] (spLo K)) :
    FnOk P w K mg base CX0 6 f fd ["turn", "first", "order"] (spLe K) := by
  refine okNZ F scLe (fun vs H Q E h => ?_) (fun cdv A outer s H vs Q E hr h => ?_)
  · obtain ⟨a, y, n, L, O, f, rfl, _⟩ := h
    rfl
  · obtain ⟨a, y, n, L, O, f, rfl, ha, t, n1, n2, ho, f1, f2, q⟩ := h
    refine ⟨_, pss_cons (ps_expr (pe_call GR (hr.mono (by decide)) rfl R.g R.F.kp R.b .nil pass0 (pa_cons (pv 0) pa_nil)))
      (pss_one (ps_ret (pe_call GC (hr.mono (by decide)) rfl C'.g C'.F.kp C'.b .nil pass0 (pa_cons (pv 0) (pa_cons (pv 1) (pa_cons (pe_call GO hr rfl O'.g O'.F.kp O'.b .nil pass0 (pa_cons (pv 2) (pa_cons (pe_callB call_len_seq (by rfl) B.len PySem.boot_len (pa_cons (pv 0) pa_nil)) pa_nil))) pa_nil)))))), ?_⟩
    show tSeq _ _ _ [some (.ref a), some (.int f), some y] H
    walk_at "rd"
    refine ⟨a, n, L, rfl, ha, t, n1, by omega, fun H1 s1 => ?_⟩
    walk_at "rd"
    have ha1 := Same.sqt s1 ha
    refine ⟨a, _, rfl, .inr ha1, ?_⟩
    rw [List.length_map, t.len]
    refine ⟨y, n, O, rfl, OrdAt.same s1 ho, n1, by omega, fun o H2 s2 hO => ?_⟩
    exact ⟨a, o, n, L, O, f, rfl, Same.sqt s2 ha1, t, n1, n2, hO, ho.trn, f1, f2, fun B l bs H3 bk s3 nl hl tb => q B l bs H3 bk (Same.trans s1 (Same.trans s2 s3)) (Same.none2 (Same.trans s1 s2) nl) hl tb⟩
end
end Toy

-- part: ZL5n
namespace Toy
open PySem L2
/-! ### the law's own rows, in numbers -/
theorem rows_lt {n : Nat} {B O L : List Int} {f last : Int} (bk : Bk n L B) (t : Trn n L) (to : Trn n O) (f1 : 1 ≤ f) (el : f + (n : Int) - 1 = last) : ∀ j, j ≤ n → 1 ≤ n → ∀ r ∈ rowsUp B f last O j, ∀ x ∈ r, 1 ≤ absI x ∧ absI x ≤ last := by
  intro j hj n1 r hr x hx
  have tb := bk.trn t
  unfold rowsUp at hr
  rcases List.mem_cons.mp hr with rfl | hr
  · rw [List.mem_singleton.mp hx, absI_pos (by omega)]
    omega
  · obtain ⟨i, hi, hr⟩ := List.mem_flatMap.mp hr
    have hi := List.mem_range.mp hi
    have lo := to.len
    have l1 : Lt n (O.getD i 0) := by
      rw [gD (by omega)]
      exact to.bd (List.getElem_mem _)
    have l2 := tb.lt l1
    obtain ⟨a1, a2⟩ := l1
    obtain ⟨b1, b2⟩ := l2
    have e0 : absI (-(f + (i : Int))) = f + (i : Int) := by rw [absI_neg, absI_pos (by omega)]
    have e1 : absI (f + (i : Int) + 1) = f + (i : Int) + 1 := absI_pos (by omega)
    have e2 : absI (-(O.getD i 0)) = absI (O.getD i 0) := absI_neg _
    unfold rowAt at hr
    rcases List.mem_cons.mp hr with rfl | hr
    · simp only [List.mem_cons, List.not_mem_nil, or_false] at hx
      rcases hx with rfl | rfl | rfl
      · rw [e0]; omega
      · rw [e2]; omega
      · omega
    · split at hr
      · rename_i hlt
        simp only [List.mem_cons, List.not_mem_nil, or_false] at hr
        rcases hr with rfl | rfl
        · simp only [List.mem_cons, List.not_mem_nil, or_false] at hx
          rcases hx with rfl | rfl | rfl
          · rw [e0]; omega
          · rw [e2]; omega
          · rw [e1]; omega
        · simp only [List.mem_cons, List.not_mem_nil, or_false] at hx
          rcases hx with rfl | rfl | rfl
          · rw [e0]; omega
          · omega
          · rw [e1]; omega
      · cases hr
theorem map_intV2 (r : List Int) : (r.map V.int).map intV = r := by
  rw [List.map_map]
  exact (List.map_congr_left fun _ _ => rfl).trans (List.map_id r)
theorem clI_eq {last : Int} {r : List Int} (b : ∀ x ∈ r, 1 ≤ absI x ∧ absI x ≤ last) : clI last r = if ∀ z ∈ r, -z ∉ r then some (canon r) else none := by
  unfold clI clO
  rw [map_intV2]
  have e : ((r.map V.int).all fun v => letB v last) = true := by
    rw [List.all_eq_true]
    intro v hv
    obtain ⟨x, hx, rfl⟩ := List.mem_map.mp hv
    show (decide (1 ≤ absI x) && decide (absI x ≤ last)) = true
    rw [decide_eq_true (b x hx).1, decide_eq_true (b x hx).2]
    rfl
  by_cases h : ∀ z ∈ r, -z ∉ r
  · rw [if_pos h, if_pos ⟨e, h⟩]
  · rw [if_neg h, if_neg fun q => h q.2]
/-- the law's test of a row's sorted letters -/
theorem abs_test {r out : List Int} (b : ∀ x ∈ r, 1 ≤ absI x) (pm : out.Perm (r.foldl addU [])) (rise : out.Pairwise fun a b => absI a ≤ absI b) :
    (dist (out.map absI) = out.length ↔ ∀ z ∈ r, -z ∉ r) ∧ ((∀ z ∈ r, -z ∉ r) → out = canon r) := by
  have nd : out.Nodup := pm.nodup_iff.mpr (nd_fold r [] List.nodup_nil)
  have mem : ∀ x, x ∈ out ↔ x ∈ r := fun x => by rw [pm.mem_iff, mem_fold]; simp
  have low : ∀ x ∈ r, 1 ≤ x.natAbs := fun x hx => by have := b x hx; rw [absI_nat] at this; omega
  refine ⟨?_, fun h => canon_of low h ⟨strict_of pm (nd_fold r [] List.nodup_nil) (fun x hx => ?_) (fun x hx => ?_) rise, mem⟩⟩
  · have dn := dist_nodup (out.map absI).length (out.map absI) rfl
    rw [List.length_map] at dn
    rw [dn]
    constructor
    · intro h z hz hm
      have h1 := (mem z).mpr hz
      have h2 := (mem _).mpr hm
      have := same_abs h h1 h2 (by rw [absI_neg])
      have := low z hz
      omega
    · intro h
      refine List.pairwise_map.mpr ((nd.imp_of_mem (S := fun a b => absI a ≠ absI b) fun {x y} hx hy hne e => ?_))
      rw [absI_nat, absI_nat] at e
      have : x = y ∨ x = -y := by omega
      rcases this with q | q
      · exact hne q
      · exact h y ((mem y).mp hy) (by rw [← q]; exact (mem x).mp hx)
  · rw [mem_fold] at hx ⊢
    simp only [List.not_mem_nil, false_or] at hx ⊢
    exact h x hx
  · rw [mem_fold] at hx
    simp only [List.not_mem_nil, false_or] at hx
    exact low x hx
end Toy

-- part: ZM3
namespace Toy
open PySem L2
/-! ### what the clauses of lesser say, in numbers -/
/-- whether one is below other by the order -/
def belowB (one other : List Int) : List Int → Bool
  | [] => false
  | l :: r => if hd one l = hd other l then belowB one other r else hd other l
theorem below_iff (one other : List Int) : ∀ O : List Int, belowB one other O = false ↔ ∀ j, j < O.length → (∀ i, i < j → hd one (O.getD i 0) = hd other (O.getD i 0)) → hd other (O.getD j 0) = true → hd one (O.getD j 0) = true
  | [] => by simp [belowB]
  | l :: r => by
    have ih := below_iff one other r
    unfold belowB
    by_cases e : hd one l = hd other l
    · rw [if_pos e, ih]
      constructor
      · intro h j hj hi hx
        cases j with
        | zero =>
          show hd one l = true
          rw [e]
          exact hx
        | succ j => exact h j (by simp at hj; omega) (fun i hij => hi (i + 1) (by omega)) hx
      · intro h j hj hi hx
        refine h (j + 1) (by simp; omega) (fun i hij => ?_) hx
        cases i with
        | zero => exact e
        | succ i => exact hi i (by omega)
    · rw [if_neg e]
      constructor
      · intro h j hj hi hx
        cases j with
        | zero =>
          have hx : hd other l = true := hx
          rw [h] at hx
          cases hx
        | succ j => exact absurd (hi 0 (by omega)) e
      · intro h
        cases hx : hd other l with
        | false => rfl
        | true =>
          have := h 0 (by simp) (fun i hi => absurd hi (Nat.not_lt_zero _)) hx
          have this : hd one l = true := this
          exact absurd (this.trans hx.symm) e
theorem mem_foldA {α : Type} [DecidableEq α] : ∀ (l ks : List α) (k : α), k ∈ l.foldl addU ks ↔ k ∈ ks ∨ k ∈ l
  | [], ks, k => by simp
  | a :: l, ks, k => by
    rw [List.foldl_cons, mem_foldA l, mem_add, List.mem_cons]
    constructor
    · rintro ((h | h) | h)
      · exact .inl h
      · exact .inr (.inl h)
      · exact .inr (.inr h)
    · rintro (h | h | h)
      · exact .inl (.inl h)
      · exact .inl (.inr h)
      · exact .inr h
theorem any_same {W a b : List Int} (h : ∀ x, x ∈ a ↔ x ∈ b) : a.any (hd W) = b.any (hd W) := by
  rw [Bool.eq_iff_iff, List.any_eq_true, List.any_eq_true]
  exact ⟨fun ⟨x, hx, q⟩ => ⟨x, (h x).mp hx, q⟩, fun ⟨x, hx, q⟩ => ⟨x, (h x).mpr hx, q⟩⟩
theorem holds_rows {m : Nat} {W : List Int} (b : Bits m W) {rows : List (List Int)} (rl : ∀ r ∈ rows, ∀ x ∈ r, 1 ≤ absI x ∧ absI x ≤ (m : Int)) : (∀ c ∈ lesC (m : Int) rows, c.any (hd W) = true) ↔ ∀ r ∈ rows, r.any (hd W) = true := by
  have mem : ∀ c, c ∈ lesC (m : Int) rows ↔ ∃ r ∈ rows, clI (m : Int) r = some c := fun c => by
    unfold lesC
    rw [mem_foldA, List.mem_filterMap]
    simp
  constructor
  · intro h r hr
    have e := clI_eq (rl r hr)
    by_cases g : ∀ z ∈ r, -z ∉ r
    · rw [if_pos g] at e
      rw [← h _ ((mem _).mpr ⟨r, hr, e⟩)]
      exact any_same fun x => (canon_mem r x).symm
    · obtain ⟨z, hz, hn⟩ : ∃ z ∈ r, -z ∈ r := by
        refine Classical.byContradiction fun q => g fun z hz hn => q ⟨z, hz, hn⟩
      rw [List.any_eq_true]
      cases q : hd W z with
      | true => exact ⟨z, hz, q⟩
      | false => exact ⟨-z, hn, by rw [hd_neg b (rl r hr z hz), q]; rfl⟩
  · intro h c hc
    obtain ⟨r, hr, e⟩ := (mem c).mp hc
    have e2 := clI_eq (rl r hr)
    rw [e] at e2
    by_cases g : ∀ z ∈ r, -z ∉ r
    · rw [if_pos g] at e2
      rw [Option.some.inj e2, ← h r hr]
      exact any_same fun x => canon_mem r x
    · rw [if_neg g] at e2
      cases e2
theorem hd_left {n : Nat} {A W : List Int} (lA : A.length = n) {l : Int} (h : Lt n l) : hd (A ++ W) l = hd A l := by
  unfold hd
  obtain ⟨h1, h2⟩ := h
  rw [List.getD_eq_getElem?_getD, List.getD_eq_getElem?_getD, List.getElem?_append_left (by omega)]
theorem hd_help {n : Nat} {A W : List Int} (lA : A.length = n) (j : Nat) : hd (A ++ W) ((n : Int) + 1 + (j : Int)) = decide (W.getD j 0 = 1) := by
  unfold hd
  rw [absI_pos (by omega), if_pos (by omega), List.getD_eq_getElem?_getD, List.getElem?_append_right (by omega), ← List.getD_eq_getElem?_getD]
  rw [show ((n : Int) + 1 + (j : Int) - 1).toNat - A.length = j by omega]
theorem les_iff {n : Nat} {L B O A : List Int} (t : Trn n L) (bk : Bk n L B) (to : Trn n O) (bA : Bits n A) (n1 : 1 ≤ n) :
    (∃ W, Bits n W ∧ ∀ c ∈ lesC ((n : Int) + 1 + n - 1) (rowsUp B ((n : Int) + 1) ((n : Int) + 1 + n - 1) O n), c.any (hd (A ++ W)) = true) ↔ belowB (bitsOf n (imgs L A)) A O = false := by
  have lo := to.len
  have lA := bA.1
  have tb := bk.trn t
  have el : (n : Int) + 1 + n - 1 = ((n + n : Nat) : Int) := by omega
  have rl := rows_lt (f := (n : Int) + 1) bk t to (by omega) rfl n (Nat.le_refl _) n1
  rw [el] at rl ⊢
  have bAW : ∀ W, Bits n W → Bits (n + n) (A ++ W) := fun W bW => ⟨by rw [List.length_append, lA, bW.1], fun x hx => (List.mem_append.mp hx).elim (bA.2 x) (bW.2 x)⟩
  have lt : ∀ j, j < n → Lt n (O.getD j 0) := fun j hj => by
    rw [gD (by omega)]
    exact to.bd (List.getElem_mem _)
  have xj : ∀ W j, j < n → hd (A ++ W) (O.getD j 0) = hd A (O.getD j 0) := fun W j hj => hd_left lA (lt j hj)
  have xn : ∀ W j, Bits n W → j < n → hd (A ++ W) (-(O.getD j 0)) = !hd A (O.getD j 0) := fun W j bW hj => by rw [hd_left lA (lt j hj).neg, hd_neg bA (lt j hj)]
  have yj : ∀ W j, j < n → hd (A ++ W) (gL B (O.getD j 0)) = hd A (gL B (O.getD j 0)) := fun W j hj => hd_left lA (tb.lt (lt j hj))
  have hj' : ∀ W (j : Nat), hd (A ++ W) ((n : Int) + 1 + (j : Int)) = decide (W.getD j 0 = 1) := fun W j => hd_help lA j
  have hn' : ∀ W (j : Nat), Bits n W → j < n → hd (A ++ W) (-((n : Int) + 1 + (j : Int))) = !decide (W.getD j 0 = 1) := fun W j bW hj => by
    rw [hd_neg (bAW W bW) ⟨by rw [absI_pos (by omega)]; omega, by rw [absI_pos (by omega)]; omega⟩, hj']
  have yy : ∀ j, j < n → hd (bitsOf n (imgs L A)) (O.getD j 0) = hd A (gL B (O.getD j 0)) := fun j hj => by
    obtain ⟨h1, h2⟩ := bk.back t (lt j hj)
    have := hd_led t lA bA.2 h1
    rw [h2] at this
    exact this
  rw [below_iff]
  constructor
  · rintro ⟨W, bW, h⟩ j hj hi hx
    rw [holds_rows (bAW W bW) rl] at h
    rw [lo] at hj
    have row : ∀ i, i < n → ∀ r ∈ rowAt B ((n : Int) + 1) ((n + n : Nat) : Int) O i, r.any (hd (A ++ W)) = true := fun i hi r hr => h r (by
      unfold rowsUp
      exact List.mem_cons_of_mem _ (List.mem_flatMap.mpr ⟨i, List.mem_range.mpr hi, hr⟩))
    have on : ∀ j, j < n → (∀ i, i < j → hd A (gL B (O.getD i 0)) = hd A (O.getD i 0)) → W.getD j 0 = 1 := by
      intro j
      induction j with
      | zero =>
        intro _ _
        have := h [(n : Int) + 1] (by unfold rowsUp; exact List.mem_cons_self)
        have e := hj' W 0
        rw [show ((n : Int) + 1 + ((0 : Nat) : Int)) = (n : Int) + 1 by omega] at e
        simp only [List.any_cons, List.any_nil, Bool.or_false] at this
        rw [e] at this
        exact of_decide_eq_true this
      | succ j ih =>
        intro hj1 hi1
        have wj := ih (by omega) fun i hij => hi1 i (by omega)
        have ej := hi1 j (by omega)
        have hlt : (n : Int) + 1 + (j : Int) < ((n + n : Nat) : Int) := by omega
        have r2 := row j (by omega) [-((n : Int) + 1 + (j : Int)), -(O.getD j 0), (n : Int) + 1 + (j : Int) + 1] (by unfold rowAt; rw [if_pos hlt]; simp)
        have r3 := row j (by omega) [-((n : Int) + 1 + (j : Int)), gL B (O.getD j 0), (n : Int) + 1 + (j : Int) + 1] (by unfold rowAt; rw [if_pos hlt]; simp)
        have e1 := hj' W (j + 1)
        rw [show ((n : Int) + 1 + ((j + 1 : Nat) : Int)) = (n : Int) + 1 + (j : Int) + 1 by omega] at e1
        simp only [List.any_cons, List.any_nil, Bool.or_false] at r2 r3
        rw [hn' W j bW (by omega), wj, decide_eq_true rfl, xn W j bW (by omega), e1] at r2
        rw [hn' W j bW (by omega), wj, decide_eq_true rfl, yj W j (by omega), e1, ej] at r3
        cases q : hd A (O.getD j 0) with
        | true =>
          rw [q] at r2
          simpa using r2
        | false =>
          rw [q] at r3
          simpa using r3
    rw [yy j hj]
    have wj := on j hj fun i hij => by rw [← yy i (by omega)]; exact hi i hij
    have r1 := row j hj [-((n : Int) + 1 + (j : Int)), -(O.getD j 0), gL B (O.getD j 0)] (by unfold rowAt; exact List.mem_cons_self)
    simp only [List.any_cons, List.any_nil, Bool.or_false] at r1
    rw [hn' W j bW hj, wj, decide_eq_true rfl, xn W j bW hj, hx, yj W j hj] at r1
    simpa using r1
  · intro h
    have hh : ∀ j, j < n → (∀ i, i < j → hd A (gL B (O.getD i 0)) = hd A (O.getD i 0)) → hd A (O.getD j 0) = true → hd A (gL B (O.getD j 0)) = true := fun j hj hi hx => by
      rw [← yy j hj]
      exact h j (by omega) (fun i hij => by rw [yy i (by omega)]; exact hi i hij) hx
    let W : List Int := (List.range n).map fun j => if (List.range j).all (fun i => hd A (gL B (O.getD i 0)) == hd A (O.getD i 0)) = true then 1 else 0
    have lW : W.length = n := by simp [W]
    have bW : Bits n W := ⟨lW, fun x hx => by
      obtain ⟨j, _, rfl⟩ := List.mem_map.mp hx
      split
      · exact .inr rfl
      · exact .inl rfl⟩
    have wget : ∀ j, j < n → (W.getD j 0 = 1 ↔ ∀ i, i < j → hd A (gL B (O.getD i 0)) = hd A (O.getD i 0)) := fun j hj => by
      have e : W.getD j 0 = if (List.range j).all (fun i => hd A (gL B (O.getD i 0)) == hd A (O.getD i 0)) = true then 1 else 0 := by
        rw [gD (by omega)]
        simp only [W, List.getElem_map, List.getElem_range]
      rw [e]
      have q : (List.range j).all (fun i => hd A (gL B (O.getD i 0)) == hd A (O.getD i 0)) = true ↔ ∀ i, i < j → hd A (gL B (O.getD i 0)) = hd A (O.getD i 0) := by
        rw [List.all_eq_true]
        constructor
        · intro z i hi
          exact eq_of_beq (z i (List.mem_range.mpr hi))
        · intro z i hi
          exact beq_iff_eq.mpr (z i (List.mem_range.mp hi))
      by_cases g : (List.range j).all (fun i => hd A (gL B (O.getD i 0)) == hd A (O.getD i 0)) = true
      · rw [if_pos g]
        exact ⟨fun _ => q.mp g, fun _ => rfl⟩
      · rw [if_neg g]
        exact ⟨fun z => absurd z (by decide), fun z => absurd (q.mpr z) g⟩
    refine ⟨W, bW, ?_⟩
    rw [holds_rows (bAW W bW) rl]
    intro r hr
    unfold rowsUp at hr
    rcases List.mem_cons.mp hr with rfl | hr
    · have e := hj' W 0
      rw [show ((n : Int) + 1 + ((0 : Nat) : Int)) = (n : Int) + 1 by omega] at e
      simp only [List.any_cons, List.any_nil, Bool.or_false]
      rw [e]
      exact decide_eq_true ((wget 0 (by omega)).mpr fun i hi => absurd hi (Nat.not_lt_zero _))
    · obtain ⟨j, hj, hr⟩ := List.mem_flatMap.mp hr
      have hj := List.mem_range.mp hj
      by_cases wj : W.getD j 0 = 1
      · have eq := (wget j hj).mp wj
        unfold rowAt at hr
        rcases List.mem_cons.mp hr with rfl | hr
        · simp only [List.any_cons, List.any_nil, Bool.or_false]
          rw [xn W j bW hj, yj W j hj]
          cases q : hd A (O.getD j 0) with
          | true => rw [hh j hj eq q]; simp
          | false => simp
        · split at hr
          · rename_i hlt
            have j1 : j + 1 < n := by omega
            have e1 := hj' W (j + 1)
            rw [show ((n : Int) + 1 + ((j + 1 : Nat) : Int)) = (n : Int) + 1 + (j : Int) + 1 by omega] at e1
            have nxt : hd A (gL B (O.getD j 0)) = hd A (O.getD j 0) → decide (W.getD (j + 1) 0 = 1) = true := fun z => decide_eq_true ((wget (j + 1) j1).mpr fun i hi => by
              by_cases e : i = j
              · rw [e]; exact z
              · exact eq i (by omega))
            simp only [List.mem_cons, List.not_mem_nil, or_false] at hr
            rcases hr with rfl | rfl
            · simp only [List.any_cons, List.any_nil, Bool.or_false]
              rw [xn W j bW hj, e1]
              cases q : hd A (O.getD j 0) with
              | true => rw [nxt (by rw [hh j hj eq q, q])]; simp
              | false => simp
            · simp only [List.any_cons, List.any_nil, Bool.or_false]
              rw [yj W j hj, e1]
              cases q : hd A (gL B (O.getD j 0)) with
              | true => simp
              | false =>
                have q2 : hd A (O.getD j 0) = false := by
                  cases q3 : hd A (O.getD j 0) with
                  | false => rfl
                  | true => rw [hh j hj eq q3] at q; cases q
                rw [nxt (by rw [q, q2])]
                simp
          · cases hr
      · have e := hn' W j bW hj
        rw [decide_eq_false wj] at e
        unfold rowAt at hr
        rcases List.mem_cons.mp hr with rfl | hr
        · simp only [List.any_cons]
          rw [e]
          simp
        · split at hr
          · simp only [List.mem_cons, List.not_mem_nil, or_false] at hr
            rcases hr with rfl | rfl <;> simp only [List.any_cons] <;> rw [e] <;> simp
          · cases hr
end Toy

-- part: ZL4
namespace Toy
open PySem L2
section
variable {P : Program} {w : World} {K : PySem.W.Frag} {mg : Str → Option Value} {base : Heap}
/-! ### drawn orders -/
theorem at_two2 {a b : V} {r : Int} (h0 : 0 ≤ r) (h1 : r < 2) : (r = 0 ∧ atI [a, b] r = some a) ∨ (r = 1 ∧ atI [a, b] r = some b) := by
  have : r = 0 ∨ r = 1 := by omega
  rcases this with rfl | rfl
  · exact .inl ⟨rfl, rfl⟩
  · exact .inr ⟨rfl, rfl⟩
theorem sign_of2 {r : Int} (h0 : 0 ≤ r) (h1 : r < 2) : ∃ s : Int, atI [V.int 1, V.int (-1)] r = some (.int s) ∧ (s = 1 ∨ s = -1) := by
  rcases at_two2 (a := V.int 1) (b := V.int (-1)) h0 h1 with ⟨_, e⟩ | ⟨_, e⟩
  · exact ⟨_, e, .inl rfl⟩
  · exact ⟨_, e, .inr rfl⟩
/-- an order, drawn: None or a new list -/
def OrdNew (H0 H : Hp) (n : Nat) (y : V) (O : List Int) : Prop := (y = .non ∧ O = up n) ∨ ∃ p, y = .ref p ∧ H0 p = none ∧ H p = some (.lst (O.map V.int)) ∧ Trn n O
theorem OrdNew.at {H0 H : Hp} {n : Nat} {y : V} {O : List Int} (h : OrdNew H0 H n y O) : OrdAt K H n y O := by
  rcases h with h | ⟨p, h1, _, h2, h3⟩
  · exact .inl h
  · exact .inr ⟨p, h1, .inl (SqL.of h2), h3⟩
abbrev sLi : Stmt := s__law_line
abbrev nLi : List Str := ["draw", "many", "pool", "found", "k"]
theorem scLi : FnScope nLi ["draw", "many"] (defScope sLi) := ⟨rfl, rfl, rfl, by decide +kernel, rfl, by decide +kernel, by decide +kernel⟩
def spLi (K : PySem.W.Frag) : Sp := fun vs H Q _ => ∃ (d : Addr) (n : Nat) (sc : Addr) (ns : List Int), vs = [.ref d, .int n] ∧ 1 ≤ n ∧ n ≤ 400 ∧ DrA K sc ns H d ∧
  ∀ (y : V) (O : List Int) (H' : Hp), Ex d H H' → DrA K sc ns H' d → OrdNew H H' n y O → Q y H'
theorem ok_li {f fX : Addr} {fd fdX : FuncData} (F : Fun K "_law_line" "_law_line" sLi f fd) (B : Bl mg) (X : Df K mg "_law_next" sNext ["draw", "size"] fX fdX) (GX : FnOk P w K mg base CX0 2 fX fdX ["draw", "size"] (spNext K)) :
    FnOk P w K mg base CX0 3 f fd ["draw", "many"] (spLi K) := by
  refine F.ok scLi (fun vs H Q E h => ?_) (fun cdv A outer s H vs Q E hr h => ?_)
  · obtain ⟨d, n, sc, ns, rfl, _⟩ := h
    rfl
  · obtain ⟨d, n, sc, ns, rfl, n1, n4, hD, q⟩ := h
    have hu := hu_of hr
    refine ⟨_, pss_cons (ps_par (i := 2) (j := 3) rfl scLi.nd rfl rfl (by decide) rfl rfl (pa_cons (pe_listRg rfl (by rfl) B.list (prg_2 (by rfl) B.range pe_int (pe_op op_add (pv 1) pe_int))) (pa_cons (pe_lst pa_nil) pa_nil)) (by rfl))
      (pss_cons (ps_if (pt_cmpR op_eq (pe_call GX hr rfl X.g X.F.kp X.b .nil pass0 (pa_cons (pv 0) (pa_cons pe_int pa_nil))) pe_int (nomark _)) (pss_one (ps_ret pe_non)) pss_nil)
      (pss_cons (ps_for PassesOwn.never rfl (pi_range1 rfl B.range (pa_cons (pv 1) pa_nil)) (pg_name (i := 4) scLi.nd rfl (Or.inl rfl))
        (pss_one (ps_expr (pe_bm PySem.F.plainAttrs_list PySem.F.slot_list_append PySem.F.type_list_append mt_append (pv 3) (pa_cons (pe_op op_mul
          (pe_bm PySem.F.plainAttrs_list PySem.F.slot_list_pop PySem.F.type_list_pop mt_popAt (pv 2) (pa_cons (pe_call GX hr rfl X.g X.F.kp X.b .nil pass0 (pa_cons (pv 0) (pa_cons (pe_callB call_len_seq (by rfl) B.len PySem.boot_len (pa_cons (pv 2) pa_nil)) pa_nil))) pa_nil))
          (pe_ix ix_list (pe_lst (pa_cons pe_int (pa_cons (pe_un un_neg pe_int) pa_nil))) (pe_call GX hr rfl X.g X.F.kp X.b .nil pass0 (pa_cons (pv 0) (pa_cons pe_int pa_nil))) (fun _ _ => rfl))) pa_nil)))))
      (pss_one (ps_ret (pv 3))))), ?_⟩
    show tSeq _ _ _ [some (.ref d), some (.int n), none, none, none] H
    refine seq_gen (fun σ' H' => ∃ (pl fl : Addr), σ' = [some (.ref d), some (.int n), some (.ref pl), some (.ref fl), none] ∧ Same H H' ∧ H pl = none ∧ H fl = none ∧ pl ≠ fl ∧ H' pl = some (.lst ((up n).map V.int)) ∧ H' fl = some (.lst [])) (fun nx hnx => ?_) ?_
    · unfold tPar
      refine ⟨_, rfl, (n : Int), 1, rfl, rfl, 1, (n : Int) + 1, rfl, rfl, RgOk.of_le (by decide) (by omega) (by decide) (by omega), fun pl hpl => ?_⟩
      rw [up_rg n (by omega), Int.toNat_natCast]
      walk_at "rd"
      refine ⟨Nat.zero_le _, fun fl hfl => ?_⟩
      have nf : H fl = none := by
        by_cases e : fl = pl
        · rw [e]; exact hpl
        · rw [upd_ne e] at hfl; exact hfl
      have ne : pl ≠ fl := fun e => by rw [← e, upd_same] at hfl; cases hfl
      exact hnx _ _ ⟨pl, fl, rfl, Same.trans (Same.new hpl) (Same.new hfl), hpl, nf, ne, by rw [upd_ne ne, upd_same], upd_same⟩
    rintro σ H1 ⟨pl, fl, rfl, s1, npl, nfl, npf, hpl, hfl⟩
    have D1 := DrA.same s1 hD
    have npd : pl ≠ d := hD.nd npl
    have nfd : fl ≠ d := hD.nd nfl
    refine seq_gen (fun σ' H' => σ' = [some (.ref d), some (.int n), some (.ref pl), some (.ref fl), none] ∧ Ex d H H' ∧ DrA K sc ns H' d ∧ H' pl = some (.lst ((up n).map V.int)) ∧ H' fl = some (.lst [])) (fun nx hnx => ?_) ?_
    · walk_at "rd"
      refine ⟨d, 4, sc, ns, rfl, by decide, D1, fun r H2 r0 r1 E2 D2 => ?_⟩
      refine ⟨rfl, _, rfl, ?_⟩
      by_cases e : r = 0
      · rw [decide_eq_true (congrArg V.int e)]
        exact iteT (q .non (up n) H2 (Ex.trans (Ex.same s1) E2) D2 (.inl ⟨rfl, rfl⟩))
      · rw [decide_eq_false fun z => e (V.int.inj z)]
        exact iteF (hnx _ _ ⟨rfl, Ex.trans (Ex.same s1) E2, D2, E2 _ _ hpl npd, E2 _ _ hfl nfd⟩)
    rintro σ H2 ⟨rfl, E2, D2, hpl2, hfl2⟩
    refine seq_gen (fun σ' H' => ∃ (l4 : Option V) (O : List Int), σ' = [some (.ref d), some (.int n), some (.ref pl), some (.ref fl), l4] ∧ Ex d H H' ∧ DrA K sc ns H' d ∧ H' fl = some (.lst (O.map V.int)) ∧ Trn n O) (fun nx hnx => ?_) ?_
    · refine ⟨_, rfl, (n : Int), rfl, by omega, by omega, ?_⟩
      refine for_range (fun i σ H' => ∃ (l4 : Option V) (O rest : List Int), σ = [some (.ref d), some (.int n), some (.ref pl), some (.ref fl), l4] ∧ Ex d H H' ∧ DrA K sc ns H' d ∧ H' fl = some (.lst (O.map V.int)) ∧ H' pl = some (.lst (rest.map V.int)) ∧ O.length = i ∧ (O.map absI ++ rest).Perm (up n))
        ⟨none, [], up n, rfl, E2, D2, hfl2, hpl2, rfl, List.Perm.refl _⟩ ?_ ?_
      · rintro k σ Hj hk ⟨l4, O, rest, rfl, Ej, Dj, hfj, hpj, lO, pm⟩
        rw [Int.toNat_natCast] at hk
        have lr : O.length + rest.length = n := by
          have := pm.length_eq
          rw [List.length_append, List.length_map, up_len] at this
          exact this
        show tDrop _ _ [some (.ref d), some (.int n), some (.ref pl), some (.ref fl), some (.int (0 + (k : Int)))] Hj
        walk_at "rd"
        refine ⟨Or.inl ⟨rfl, _, SqL.of hfj⟩, .inl ⟨rfl, _, SqL.of hpj⟩, pl, _, rfl, .inl (SqL.of hpj), ?_⟩
        rw [List.length_map]
        refine ⟨d, (rest.length : Int), sc, ns, rfl, by omega, Dj, fun r H' r0' r1' E' D' => ?_⟩
        obtain ⟨z, rfl⟩ := Int.eq_ofNat_of_zero_le r0'
        have zl : z < rest.length := by omega
        have hp' := E' _ _ hpj npd
        have hf' := E' _ _ hfj nfd
        have gz : (rest.map V.int)[z]? = some (V.int rest[z]) := by rw [List.getElem?_map, List.getElem?_eq_getElem zl]; rfl
        refine ⟨pl, _, (z : Int), z, _, rfl, rfl, hp', by omega, by omega, seqIx (by rw [List.length_map]; exact zl), gz, ?_⟩
        have Ea := Ex.trans Ej E'
        have Eb := Ex.up (o := .lst ((rest.map V.int).eraseIdx z)) Ea npl
        have Db := DrA.up (o := .lst ((rest.map V.int).eraseIdx z)) hD D' Ea npl
        have hfb : upd H' pl (.lst ((rest.map V.int).eraseIdx z)) fl = some (.lst (O.map V.int)) := by rw [upd_ne (Ne.symm npf)]; exact hf'
        have hpb : upd H' pl (.lst ((rest.map V.int).eraseIdx z)) pl = some (.lst ((rest.eraseIdx z).map V.int)) := by rw [upd_same, map_erase]
        generalize upd H' pl (.lst ((rest.map V.int).eraseIdx z)) = H5 at *
        refine ⟨by show 2 ≤ sizeLine; decide, fun p hp => ?_⟩
        have D6 := DrA.same (Same.new (o := .lst [.int 1, .int (-1)]) hp) Db
        refine ⟨d, 2, sc, ns, rfl, by decide, D6, fun r2 H7 r20 r21 E7 D7 => ?_⟩
        have hp7 : H7 p = some (.lst [.int 1, .int (-1)]) := E7 _ _ upd_same (Db.nd hp)
        obtain ⟨sg, hsg, sg1⟩ := sign_of2 r20 r21
        refine p_ix (SqL.of hp7) hsg ?_
        have hf7 : H7 fl = some (.lst (O.map V.int)) := E7 _ _ (Same.new hp _ _ hfb) nfd
        have hpl7 : H7 pl = some (.lst ((rest.eraseIdx z).map V.int)) := E7 _ _ (Same.new hp _ _ hpb) npd
        have E07 : Ex d H H7 := Ex.trans Eb (Ex.trans (Ex.new hp) E7)
        have mz : rest[z] ∈ up n := pm.mem_iff.mp (List.mem_append_right _ (List.getElem_mem zl))
        obtain ⟨z1, z2⟩ := up_mem.mp mz
        refine ⟨_, _, rfl, rfl, .inl ⟨by omega, by omega⟩, p_app hf7 (by rw [List.length_map]; exact small1000 (by omega)) ?_⟩
        refine ⟨_, O ++ [rest[z] * sg], rest.eraseIdx z, rfl, Ex.up E07 nfl, DrA.up hD D7 E07 nfl, by rw [upd_same, List.map_append]; rfl, by rw [upd_ne npf]; exact hpl7, by rw [List.length_append, lO]; rfl, ?_⟩
        have ea : absI (rest[z] * sg) = rest[z] := by
          rcases sg1 with rfl | rfl
          · rw [Int.mul_one, absI_pos (by omega)]
          · rw [Int.mul_neg, Int.mul_one, absI_neg, absI_pos (by omega)]
        rw [List.map_append, List.map_cons, List.map_nil, ea, List.append_assoc]
        exact (List.Perm.append_left _ (erase_perm rest z _ (List.getElem?_eq_getElem zl))).trans pm
      · rintro σ Hj ⟨l4, O, rest, rfl, Ej, Dj, hfj, hpj, lO, pm⟩
        rw [Int.toNat_natCast] at lO
        have lr := pm.length_eq
        rw [List.length_append, List.length_map, up_len] at lr
        have r0 : rest = [] := List.eq_nil_of_length_eq_zero (by omega)
        subst r0
        rw [List.append_nil] at pm
        exact hnx _ _ ⟨l4, O, rfl, Ej, Dj, hfj, pm⟩
    rintro σ H3 ⟨l4, O, rfl, E3, D3, hf3, tO⟩
    walk_at "rd"
    exact q (.ref fl) O H3 E3 D3 (.inr ⟨fl, rfl, nfl, hf3, tO⟩)
abbrev sPl : Stmt := s__law_plain
theorem scPl : FnScope ["line", "many"] ["line", "many"] (defScope sPl) := ⟨rfl, rfl, rfl, by decide +kernel, rfl, by decide +kernel, by decide +kernel⟩
def spPl (K : PySem.W.Frag) : Sp := fun vs H Q _ => ∃ (y : V) (n : Nat) (O : List Int), vs = [y, .int n] ∧ ((y = .non ∧ O = up n) ∨ ∃ p, y = .ref p ∧ SqL K H p (O.map V.int)) ∧ 1 ≤ n ∧ n ≤ 400 ∧ ∀ (a : Addr) (H' : Hp), Same H H' → H a = none → H' a = some (.lst (O.map V.int)) → Q (.ref a) H'
theorem ok_pl {f : Addr} {fd : FuncData} (F : Fun K "_law_plain" "_law_plain" sPl f fd) (B : Bl mg) : FnOk P w K mg base CX0 1 f fd ["line", "many"] (spPl K) := by
  refine F.ok scPl (fun vs H Q E h => ?_) (fun cdv A outer s H vs Q E hr h => ?_)
  · obtain ⟨y, n, O, rfl, _⟩ := h
    rfl
  · obtain ⟨y, n, O, rfl, ho, n1, n4, q⟩ := h
    refine ⟨_, pss_one (ps_ret (pe_ifExp (pt_cmpR op_isN (pv 0) pe_non (nomark _)) (pe_listRg rfl (by rfl) B.list (prg_2 (by rfl) B.range pe_int (pe_op op_add (pv 1) pe_int))) (pe_callTy (T := "list") call_list_of (by rfl) B.list (by decide +kernel) (pa_cons (pv 0) pa_nil)))), ?_⟩
    show tRet _ _ [some y, some (.int n)] H
    walk_at "rd"
    rcases ho with ⟨rfl, rfl⟩ | ⟨p, rfl, hp⟩
    · refine ⟨trivial, ?_⟩
      rw [decide_eq_true rfl]
      refine iteT ?_
      refine ⟨_, rfl, (n : Int), 1, rfl, rfl, 1, (n : Int) + 1, rfl, rfl, RgOk.of_le (by decide) (by omega) (by decide) (by omega), fun pl hpl => ?_⟩
      rw [up_rg n (by omega), Int.toNat_natCast]
      exact q pl _ (Same.new hpl) hpl upd_same
    · refine ⟨trivial, ?_⟩
      rw [decide_eq_false (fun z => by cases z)]
      refine iteF ?_
      exact ⟨p, _, rfl, .inl hp, fun a ha => q a _ (Same.new ha) ha upd_same⟩
end
end Toy

-- part: B3
namespace Toy
open PySem L2
section
variable {P : Program} {w : World} {K : PySem.W.Frag} {mg : Str → Option Value} {base : Heap}
abbrev nJn : List Str := ["one", "other", "letter"]
def spJn (K : PySem.W.Frag) : Sp := fun vs H Q _ => ∃ (a b : Addr) (n : Nat) (L M : List Int), vs = [.ref a, .ref b] ∧ SqT K H a (L.map V.int) ∧ Trn n L ∧ n ≤ 400 ∧ SqT K H b (M.map V.int) ∧ M.length = n ∧ ∀ (c : Addr) (H' : Hp), Same H H' → H' c = some (.tup ((joined L M).map V.int)) → Q (.ref c) H'
def tJn (K : PySem.W.Frag) : TE := tCall (spGoes K) [] E0 (tCons (tVar 1) (tCons (tVar 2) tNil))
/-! ### a clause -/
abbrev nCs : List Str := ["draw", "many", "top", "pool", "size", "truths", "k", "truth"]
def spCs (K : PySem.W.Frag) : Sp := fun vs H Q _ => ∃ (d : Addr) (n : Nat) (t : Int) (sc : Addr) (ns : List Int), vs = [.ref d, .int n, .int t] ∧ 1 ≤ n ∧ n ≤ 400 ∧ 0 ≤ t ∧ DrA K sc ns H d ∧
  ∀ (a : Addr) (C : List Int) (H' : Hp), C.length ≤ n → (C.map absI).Nodup → C.Pairwise (fun x y => absI x ≤ absI y) → (∀ x ∈ C, Lt n x) → Ex d H H' → DrA K sc ns H' d → H' a = some (.tup (C.map V.int)) → H a = none → Q (.ref a) H'
def tPop3 (K : PySem.W.Frag) : TE := tBM K "list" rPopAt (tVar 3) (tCons (tCall (spNext K) [] E0 (tCons (tVar 0) (tCons (tCB (fun xs H Q => ∃ p ys, xs = [.ref p] ∧ (SqL K H p ys ∨ SqT K H p ys) ∧ Q (.int ys.length) H) (tCons (tVar 3) tNil)) tNil))) tNil)
def tSg7 (K : PySem.W.Frag) : TE := tOp (rIxL K) (tLst (tCons (tVar 7) (tCons (tUn (rU fun i => .int (-i)) (tVar 7)) tNil))) (tCall (spNext K) [] E0 (tCons (tVar 0) (tCons (tC (V.int 2)) tNil)))
/-! ### whether a clause holds -/
abbrev sHo : Stmt := s__law_holds
abbrev nHo : List Str := ["clause", "answer", "letter"]
theorem scHo : FnScope nHo ["clause", "answer"] (defScope sHo) := ⟨rfl, rfl, rfl, by decide +kernel, rfl, by decide +kernel, by decide +kernel⟩
def spHo (K : PySem.W.Frag) : Sp := fun vs H Q _ => ∃ (c b : Addr) (n : Nat) (C W : List Int), vs = [.ref c, .ref b] ∧ SqT K H c (C.map V.int) ∧ C.length ≤ 1000 ∧ (∀ l ∈ C, Lt n l) ∧ SqT K H b (W.map V.int) ∧ W.length = n ∧ ∀ H', Same H H' → Q (.bl (C.any (hd W))) H'
def tHo (K : PySem.W.Frag) : TE := tOp rEq (tOp (rIxT K) (tVar 1) (tOp (rI0 fun i j => .int (i - j)) (tCB (fun xs H Q => ∃ i, xs = [.int i] ∧ Q (.int (if i < 0 then -i else i)) H) (tCons (tVar 2) tNil)) (tC (V.int 1))))
  (tCB (fun xs H Q => (∃ i, xs = [.int i] ∧ Q (.int i) H) ∨ ∃ k, xs = [.bl k] ∧ Q (.int (if k then 1 else 0)) H) (tCons (tOp (rI0 fun i j => .bl (decide (j < i))) (tVar 2) (tC (V.int 0))) tNil))
theorem ok_ho {f : Addr} {fd : FuncData} (F : Fun K "_law_holds" "_law_holds" sHo f fd) (B : Bl mg) : FnOk P w K mg base CX0 1 f fd ["clause", "answer"] (spHo K) := by
  refine F.ok scHo (fun vs H Q E h => ?_) (fun cdv A outer s H vs Q E hr h => ?_)
  · obtain ⟨c, b, n, C, W, rfl, _⟩ := h
    rfl
  · obtain ⟨c, b, n, C, W, rfl, hc, lC, bC, hb, lW, q⟩ := h
    refine ⟨_, pss_one (ps_ret (pe_callB (cr_any rfl) (by rfl) B.any (by decide +kernel) (pa_cons
        (pe_lc (own := [("letter", 2)]) (g := gName 2) (tt := tYes) (te := tHo K) rfl scHo.nd (pi_tup (pv 0)) (blkOk_by (own := [("letter", 2)]) (N := nHo) (sc := defScope sHo) (by decide +kernel))
          (fun _ _ _ _ _ => pg_name (i := 2) scHo.nd rfl (Or.inl rfl)) (fun _ _ _ _ _ => pts_nil)
          (fun _ _ _ _ _ => pe_cmpR op_eq (pe_ix ix_tup (pv 1) (pe_op op_sub (pe_callB call_abs (by rfl) B.abs (by decide +kernel) (pa_cons (pv 2) pa_nil)) pe_int) (fun _ _ => rfl)) (pe_callTy call_int1 (by rfl) B.int (by decide +kernel) (pa_cons (pe_cmpR op_gt (pv 2) pe_int (nomark _)) pa_nil)) (nomark _))) pa_nil))), ?_⟩
    show tRet _ _ [some (.ref c), some (.ref b), none] H
    walk_at "rd"
    refine ⟨_, rfl, c, rfl, ⟨_, hc⟩, fun D hD => lc_tup (K := K) (a := c) (xs := C.map V.int) (fun j Hj => Same H Hj ∧ Hj D = some (.lst (((C.take j).map (hd W)).map V.bl))) ⟨Same.new hD, upd_same⟩ (fun j Hj _ ⟨e, _⟩ => Same.sqt e hc) ?_ ?_⟩
    · rintro j x Hj hj ⟨ej, hDj⟩
      rw [List.getElem?_map] at hj
      cases ez : C[j]? with
      | none => rw [ez] at hj; cases hj
      | some z =>
      rw [ez] at hj
      cases hj
      have hjl : j < C.length := (List.getElem?_eq_some_iff.mp ez).1
      obtain ⟨b1, b2⟩ := bC z (List.mem_of_getElem? ez)
      refine ⟨rfl, yesT ?_⟩
      show tHo K [some (.ref c), some (.ref b), some (.int z)] Hj _
      unfold tHo
      walk_at "rd"
      obtain ⟨k, ek⟩ := Int.eq_ofNat_of_zero_le (by omega : 0 ≤ absI z - 1)
      refine p_ixT (Same.sqt ej hb) (v := .int (W.getD (absI z - 1).toNat 0)) (by rw [show (if z < 0 then -z else z) - 1 = absI z - 1 from rfl, ek, Int.toNat_natCast]; exact at_nat (by omega)) ?_
      refine .inr ⟨_, rfl, rfl, ?_⟩
      have e : decide (V.int (W.getD (absI z - 1).toNat 0) = V.int (if decide (0 < z) = true then 1 else 0)) = hd W z := by
        unfold hd
        by_cases p : 0 < z
        · simp only [p, decide_true, if_true]
          rw [Bool.eq_iff_iff, decide_eq_true_eq, decide_eq_true_eq]
          exact ⟨V.int.inj, congrArg V.int⟩
        · simp only [p, decide_false, if_false, Bool.false_eq_true]
          rw [Bool.eq_iff_iff, decide_eq_true_eq, decide_eq_true_eq]
          exact ⟨V.int.inj, congrArg V.int⟩
      rw [e]
      refine ⟨_, hDj, by rw [List.length_map, List.length_map, List.length_take]; exact small1000 (by omega), fun c o hc => ?_, ?_⟩
      · rw [upd_ne (ne_of_none hc hD)]
        exact ej c o hc
      · rw [upd_same, List.take_add_one, ez]
        simp only [Option.toList_some, List.map_append, List.map_cons, List.map_nil]
    rintro H5 ⟨s5, hD5⟩
    rw [List.length_map, List.take_length] at hD5
    refine ⟨D, C.map (hd W), rfl, SqL.of hD5, ?_⟩
    have e : (C.map (hd W)).any id = C.any (hd W) := by rw [List.any_map]; rfl
    rw [e]
    exact q H5 s5
/-! ### the turn that leads back, truth by truth -/
abbrev nTb : List Str := ["one", "found", "k", "letter"]
def tGet (K : PySem.W.Frag) : TE := tDGet (tVar 1) (tVar 2)
end
end Toy

-- part: ZM2
namespace Toy
open PySem L2
section
variable {P : Program} {w : World} {K : PySem.W.Frag} {mg : Str → Option Value} {base : Heap}
/-! ### where an answer is led -/
abbrev sLw : Stmt := s__law_led_answer
abbrev nLw : List Str := ["turn", "answer", "letters", "k", "one", "letter"]
theorem scLw : FnScope nLw ["turn", "answer"] (defScope sLw) := ⟨rfl, rfl, rfl, by decide +kernel, rfl, by decide +kernel, by decide +kernel⟩
def spLw (K : PySem.W.Frag) : Sp := fun vs H Q _ => ∃ (a b : Addr) (n : Nat) (L W : List Int), vs = [.ref a, .ref b] ∧ SqT K H a (L.map V.int) ∧ Trn n L ∧ 1 ≤ n ∧ n ≤ 400 ∧ SqT K H b (W.map V.int) ∧ W.length = n ∧ (∀ x ∈ W, x = 0 ∨ x = 1) ∧
  ∀ (c : Addr) (H' : Hp), Same H H' → H' c = some (.tup ((bitsOf n (imgs L W)).map V.int)) → Q (.ref c) H'
def tPick (K : PySem.W.Frag) : TE := tCall (spGoes K) [] E0 (tCons (tVar 0) (tCons (tOp (rIxL K) (tLst (tCons (tUn (rU fun i => .int (-i)) (tVar 3)) (tCons (tVar 3) tNil))) (tVar 4)) tNil))
def tPos1 : TE := tCB (fun xs H Q => (∃ i, xs = [.int i] ∧ Q (.int i) H) ∨ ∃ k, xs = [.bl k] ∧ Q (.int (if k then 1 else 0)) H) (tCons (tOp (rI0 fun i j => .bl (decide (j < i))) (tVar 5) (tC (V.int 0))) tNil)
theorem ok_lw {f fG : Addr} {fd fdG : FuncData} (F : Fun K "_law_led_answer" "_law_led_answer" sLw f fd) (B : Bl mg) (G : Df K mg "_law_goes" sLGoes ["turn", "letter"] fG fdG) : FnOk P w K mg base CX0 2 f fd ["turn", "answer"] (spLw K) := by
  have GG : FnOk P w K mg base CX0 1 fG fdG ["turn", "letter"] (spGoes K) := ok_lgoes G.F
  refine F.ok scLw (fun vs H Q E h => ?_) (fun cdv A outer s H vs Q E hr h => ?_)
  · obtain ⟨a, b, n, L, W, rfl, _⟩ := h
    rfl
  · obtain ⟨a, b, n, L, W, rfl, hs, t, h1, h4, hb, lW, hW, q⟩ := h
    refine ⟨_, pss_cons (ps_setLc (i := 2) (own := [("k", 3), ("one", 4)]) (g := gTup K 2 (gCons (gName 3) (gCons (gName 4) gNil))) (tt := tYes) (te := tPick K) rfl scLw.nd rfl rfl (sw_true rfl rfl rfl (by decide +kernel)) (pi_enumC (by rfl) B.enumerate (pa_cons (pv 1) (pa_cons pe_int pa_nil)))
        (blkOk_by (own := [("k", 3), ("one", 4)]) (N := nLw) (sc := defScope sLw) (by decide +kernel)) (fun _ _ _ _ _ => pg_tup rfl (pgs_cons (pg_name (i := 3) scLw.nd rfl (Or.inl rfl)) (pgs_cons (pg_name (i := 4) scLw.nd rfl (Or.inl rfl)) pgs_nil))) (fun _ _ _ _ _ => pts_nil)
        (fun _ _ _ _ _ => pe_call GG hr rfl G.g G.F.kp G.b .nil pass0 (pa_cons (pv 0) (pa_cons (pe_ix ix_list (pe_lst (pa_cons (pe_un un_neg (pv 3)) (pa_cons (pv 3) pa_nil))) (pv 4) (fun _ _ => rfl)) pa_nil))))
      (pss_one (ps_ret (pe_callTy call_tuple_of (by rfl) B.tuple (by decide +kernel) (pa_cons (pe_lc (own := [("letter", 5)]) (g := gName 5) (tt := tYes) (te := tPos1) rfl scLw.nd
        (pi_list (pe_sorted (run_list (u100 hr) rel_abs fun a => PyProof.Rows.ksk_t4 "abs" a) (key_abs (by rfl) B.abs) (by rfl) B.sorted (pa_cons (pv 2) pa_nil))) (blkOk_by (own := [("letter", 5)]) (N := nLw) (sc := defScope sLw) (by decide +kernel))
        (fun _ _ _ _ _ => pg_name (i := 5) scLw.nd rfl (Or.inl rfl)) (fun _ _ _ _ _ => pts_nil) (fun _ _ _ _ _ => pe_callTy call_int1 (by rfl) B.int (by decide +kernel) (pa_cons (pe_cmpR op_gt (pv 5) pe_int (nomark _)) pa_nil))) pa_nil)))), ?_⟩
    show tSeq _ _ _ [some (.ref a), some (.ref b), none, none, none, none] H
    refine seq_gen (fun σ' H' => ∃ D, σ' = [some (.ref a), some (.ref b), some (.ref D), none, none, none] ∧ Same H H' ∧ H' D = some (.lst ((imgs L W).map V.int))) (fun nx hnx => ?_) ?_
    · refine ⟨_, rfl, b, W.map V.int, 1, rfl, hb, by decide, by decide, fun D hD => ?_⟩
      refine lc_it (walk_enumC (xs := W.map V.int) (c := 1)) (fun j Hj => Same H Hj ∧ Hj D = some (.lst (((List.range j).map fun i => gL L (lOf W i)).map V.int))) ⟨Same.new hD, upd_same⟩ (fun j Hj _ ⟨e, _⟩ => Same.sqt e hb) ?_ ?_
      · rintro j x Hj Hk hj ⟨ej, hDj⟩ ⟨T, y, rfl, nT, rfl, hy⟩
        rw [List.length_map] at hj
        rw [List.getElem?_map, List.getElem?_eq_getElem hj] at hy
        cases hy
        have sT : Same Hj (upd Hj T (.tup [.int (1 + (j : Nat)), V.int W[j]])) := Same.new nT
        have hT : upd Hj T (.tup [.int (1 + (j : Nat)), V.int W[j]]) T = some (.tup [.int (1 + (j : Nat)), V.int W[j]]) := upd_same
        generalize upd Hj T (.tup [.int (1 + (j : Nat)), V.int W[j]]) = Hk at *
        refine ⟨T, _, rfl, SqT.of hT, rfl, _, _, rfl, _, _, rfl, rfl, rfl, yesT ?_⟩
        show tPick K [some (.ref a), some (.ref b), none, some (.int (1 + (j : Nat))), some (.int W[j]), none] Hk _
        unfold tPick
        walk_at "rd"
        refine ⟨by show 2 ≤ sizeLine; decide, fun p hp => ?_⟩
        have sp := Same.new (o := .lst [.int (-(1 + (j : Int))), .int (1 + (j : Int))]) hp
        have el := lOf_abs W j
        have gd : W.getD j 0 = W[j] := by rw [List.getD_eq_getElem?_getD, List.getElem?_eq_getElem hj]; rfl
        have at_ : atI [V.int (-(1 + (j : Int))), V.int (1 + (j : Int))] W[j] = some (.int (lOf W j)) := by
          unfold lOf
          rw [gd]
          rcases hW _ (List.getElem_mem hj) with e | e
          · rw [e, if_neg (by decide)]
            rfl
          · rw [e, if_pos rfl]
            rfl
        refine p_ix (SqL.of upd_same) at_ ?_
        have ek := Same.trans ej (Same.trans sT sp)
        refine ⟨a, L, _, rfl, Same.sqt ek hs, by rw [el]; omega, by rw [el, t.len]; omega, _, sp _ _ (sT _ _ hDj), by rw [List.length_map, List.length_map, List.length_range]; exact small1000 (by omega), fun c o hc => ?_, ?_⟩
        · rw [upd_ne (ne_of_none hc hD)]
          exact sp _ _ (sT _ _ (ej c o hc))
        · rw [upd_same, List.range_succ, List.map_append, List.map_append]
          rfl
      · rintro H5 ⟨s5, hD5⟩
        rw [List.length_map] at hD5
        exact hnx _ _ ⟨D, rfl, s5, hD5⟩
    rintro σ' H3 ⟨D, rfl, s3, hD⟩
    have tI := trn_imgs t lW
    generalize imgs L W = I at *
    walk_at "rd"
    refine ⟨_, rfl, _, rfl, D, _, rfl, SqL.of hD, go_abs fun S p pm ho hp => ?_⟩
    have s4 : Same H3 (upd H3 p (.lst (S.map V.int))) := Same.new hp
    have hp4 : upd H3 p (.lst (S.map V.int)) p = some (.lst (S.map V.int)) := upd_same
    generalize upd H3 p (.lst (S.map V.int)) = H4 at *
    have lS : S.length ≤ 400 := by rw [pm.length_eq, tI.len]; exact h4
    refine ⟨p, rfl, ⟨_, SqL.of hp4⟩, fun D2 hD2 => lc_list (K := K) (a := p) (xs := S.map V.int) (fun j Hj => Same H4 Hj ∧ Hj D2 = some (.lst (((S.take j).map fun l => if 0 < l then (1 : Int) else 0).map V.int))) ⟨Same.new hD2, upd_same⟩ (fun j Hj _ ⟨e, _⟩ => SqL.of (e _ _ hp4)) ?_ ?_⟩
    · rintro j x Hj hj ⟨ej, hDj⟩
      rw [List.getElem?_map] at hj
      cases ez : S[j]? with
      | none => rw [ez] at hj; cases hj
      | some z =>
      rw [ez] at hj
      cases hj
      have hjl : j < S.length := (List.getElem?_eq_some_iff.mp ez).1
      refine ⟨rfl, yesT ?_⟩
      show tPos1 [some (.ref a), some (.ref b), some (.ref D), none, none, some (.int z)] Hj _
      unfold tPos1
      walk_at "rd"
      refine .inr ⟨_, rfl, ?_⟩
      have e : (if decide (0 < z) = true then (1 : Int) else 0) = if 0 < z then (1 : Int) else 0 := by
        by_cases p : 0 < z <;> simp [p]
      rw [e]
      refine ⟨_, hDj, by rw [List.length_map, List.length_map, List.length_take]; exact small1000 (by omega), fun c o hc => ?_, ?_⟩
      · rw [upd_ne (ne_of_none hc hD2)]
        exact ej c o hc
      · rw [upd_same, List.take_add_one, ez]
        simp only [Option.toList_some, List.map_append, List.map_cons, List.map_nil]
    rintro H5 ⟨s5, hD5⟩
    rw [List.length_map, List.take_length, bits_eq tI pm ho] at hD5
    refine ⟨D2, _, rfl, .inl ⟨SqL.of hD5, fun c hc => ?_⟩⟩
    exact q c _ (Same.trans s3 (Same.trans s4 (Same.trans s5 (Same.new hc)))) upd_same
/-! ### below -/
abbrev sBe : Stmt := s__law_below
abbrev nBe : List Str := ["one", "other", "line", "letter", "at", "sign"]
theorem scBe : FnScope nBe ["one", "other", "line"] (defScope sBe) := ⟨rfl, rfl, rfl, by decide +kernel, rfl, by decide +kernel, by decide +kernel⟩
def spBe (K : PySem.W.Frag) : Sp := fun vs H Q _ => ∃ (a b : Addr) (y : V) (n : Nat) (U W O : List Int), vs = [.ref a, .ref b, y] ∧ SqT K H a (U.map V.int) ∧ SqT K H b (W.map V.int) ∧ Bits n U ∧ Bits n W ∧ 1 ≤ n ∧ n ≤ 400 ∧ ((y = .non ∧ O = up n) ∨ ∃ p, y = .ref p ∧ SqL K H p (O.map V.int)) ∧ Trn n O ∧
  ∀ (H' : Hp), Same H H' → Q (.bl (belowB U W O)) H'
theorem ok_be {f fP : Addr} {fd fdP : FuncData} (F : Fun K "_law_below" "_law_below" sBe f fd) (B : Bl mg) (P' : Df K mg "_law_plain" sPl ["line", "many"] fP fdP) : FnOk P w K mg base CX0 2 f fd ["one", "other", "line"] (spBe K) := by
  have GP : FnOk P w K mg base CX0 1 fP fdP ["line", "many"] (spPl K) := ok_pl P'.F B
  refine F.ok scBe (fun vs H Q E h => ?_) (fun cdv A outer s H vs Q E hr h => ?_)
  · obtain ⟨a, b, y, n, U, W, O, rfl, _⟩ := h
    rfl
  · obtain ⟨a, b, y, n, U, W, O, rfl, ha, hb, bU, bW, n1, n4, hy, to, q⟩ := h
    have hu := hu_of hr
    refine ⟨_, pss_cons (ps_for PassesOwn.never rfl (pi_list (pe_call GP hr rfl P'.g P'.F.kp P'.b .nil pass0 (pa_cons (pv 2) (pa_cons (pe_callB call_len_seq (by rfl) B.len PySem.boot_len (pa_cons (pv 0) pa_nil)) pa_nil)))) (pg_name (i := 3) scBe.nd rfl (Or.inl rfl))
        (pss_cons (ps_par (i := 4) (j := 5) rfl scBe.nd rfl rfl (by decide) rfl rfl (pa_cons (pe_op op_sub (pe_callB call_abs (by rfl) B.abs (by decide +kernel) (pa_cons (pv 3) pa_nil)) pe_int) (pa_cons (pe_callTy call_int1 (by rfl) B.int (by decide +kernel) (pa_cons (pe_cmpR op_gt (pv 3) pe_int (nomark _)) pa_nil)) pa_nil)) (by rfl))
        (pss_one (ps_if (pt_cmpR op_ne (pe_ix ix_tup (pv 0) (pv 4) (fun _ _ => rfl)) (pe_ix ix_tup (pv 1) (pv 4) (fun _ _ => rfl)) (nomark _)) (pss_one (ps_ret (pe_cmpR op_eq (pe_ix ix_tup (pv 1) (pv 4) (fun _ _ => rfl)) (pv 5) (nomark _)))) pss_nil))))
      (pss_one (ps_ret pe_bl)), ?_⟩
    show tSeq _ _ _ [some (.ref a), some (.ref b), some y, none, none, none] H
    have lo := to.len
    refine ⟨_, rfl, _, rfl, a, _, rfl, .inr ha, ?_⟩
    rw [List.length_map, bU.1]
    refine ⟨y, n, O, rfl, hy, n1, n4, fun l H1 s1 nl hl => ?_⟩
    refine ⟨l, rfl, ⟨_, SqL.of hl⟩, for_list (K := K) (a := l) (xs := O.map V.int) (fun i σ H' => ∃ (l3 l4 l5 : Option V), σ = [some (.ref a), some (.ref b), some y, l3, l4, l5] ∧ Same H1 H' ∧ belowB U W O = belowB U W (O.drop i)) ⟨_, _, _, rfl, Same.refl H1, rfl⟩ (fun i σ H' _ ⟨_, _, _, _, e, _⟩ => SqL.of (e _ _ hl)) ?_ ?_⟩
    · rintro i x σ H2 hi ⟨l3, l4, l5, rfl, e2, hB⟩
      rw [List.getElem?_map] at hi
      cases ez : O[i]? with
      | none => rw [ez] at hi; cases hi
      | some z =>
      rw [ez] at hi
      cases hi
      have zl := to.bd (List.mem_of_getElem? ez)
      have hil : i < O.length := (List.getElem?_eq_some_iff.mp ez).1
      have dz : O.drop i = z :: O.drop (i + 1) := by
        rw [List.drop_eq_getElem_cons hil]
        congr 1
        exact (List.getElem?_eq_some_iff.mp ez).2
      have e12 := Same.trans s1 e2
      obtain ⟨k, ek⟩ := Int.eq_ofNat_of_zero_le (by omega : 0 ≤ absI z - 1)
      refine seq_gen (fun σ' H' => σ' = [some (.ref a), some (.ref b), some y, some (.int z), some (.int (k : Int)), some (.int (if 0 < z then 1 else 0))] ∧ H' = H2) (fun nx hnx => ?_) ?_
      · show tPar _ _ _ _ [some (.ref a), some (.ref b), some y, some (.int z), l4, l5] H2
        unfold tPar
        walk_at "rd"
        rw [show (if z < 0 then -z else z) - 1 = (k : Int) from ek]
        refine .inr ⟨_, rfl, ?_⟩
        have e : (if decide (0 < z) = true then (1 : Int) else 0) = if 0 < z then (1 : Int) else 0 := by
          by_cases p : 0 < z <;> simp [p]
        rw [e]
        exact hnx _ _ ⟨rfl, rfl⟩
      rintro σ' H3 ⟨rfl, rfl⟩
      have gk : ∀ X : List Int, Bits n X → hd X z = decide (X.getD k 0 = if 0 < z then 1 else 0) := fun X _ => by
        unfold hd
        rw [ek, Int.toNat_natCast]
      have kU : k < U.length := by rw [bU.1]; omega
      have kW : k < W.length := by rw [bW.1]; omega
      walk_at "rd"
      refine p_ixT (Same.sqt e12 ha) (at_nat kU) (p_ixT (Same.sqt e12 hb) (at_nat kW) ?_)
      refine ⟨rfl, _, rfl, ?_⟩
      have bu := bit_of bU.2 kU
      have bw := bit_of bW.2 kW
      by_cases e : U.getD k 0 = W.getD k 0
      · rw [decide_eq_true (congrArg V.int e)]
        refine iteF ?_
        refine ⟨_, _, _, rfl, e2, ?_⟩
        rw [hB, dz, belowB, gk U bU, gk W bW, if_pos (by rw [e])]
      · rw [decide_eq_false fun z => e (V.int.inj z)]
        refine iteT ?_
        walk_at "rd"
        refine p_ixT (Same.sqt e12 hb) (at_nat kW) ?_
        have hne : hd U z ≠ hd W z := by
          rw [gk U bU, gk W bW]
          rcases bu with u | u <;> rcases bw with v | v <;> rw [u, v] at e ⊢ <;> by_cases p : 0 < z <;> simp [p] at e ⊢
        have eB : belowB U W O = decide (V.int (W.getD k 0) = V.int (if 0 < z then 1 else 0)) := by
          rw [hB, dz, belowB, if_neg hne, gk W bW, Bool.eq_iff_iff, decide_eq_true_eq, decide_eq_true_eq]
          exact ⟨congrArg V.int, V.int.inj⟩
        rw [eB] at q
        exact ⟨rfl, q H3 e12⟩
    · rintro σ H2 ⟨l3, l4, l5, rfl, e2, hB⟩
      rw [List.length_map, List.drop_length] at hB
      have q' := q H2 (Same.trans s1 e2)
      rw [hB] at q'
      walk_at "rd"
      exact q'
end
end Toy

-- part: DL2
/-! lists of clauses, lists of numbers, None: as data -/
namespace Toy
open PySem L2
def dLc (cs : List (List Int)) : PyData := .list (cs.map dTup)
theorem shaped_lc (cs : List (List Int)) : SeqAt.shaped (dLc cs) = true := by
  have h := dep_cls cs
  unfold SeqAt.shaped dLc
  rw [Bool.and_eq_true]
  refine ⟨by simp [PyData.canLay0, can_cls], decide_eq_true ?_⟩
  simp only [PyData.depth]
  omega
theorem eqv_lc (a b : List (List Int)) : PyData.eqv (dLc a) (dLc b) = decide (a = b) := by
  unfold dLc
  simp only [PyData.eqv]
  exact eqvAll_cls a b
theorem dp_lc {K : PySem.W.Frag} {H : Hp} {l : Addr} {bs : List Addr} {cs : List (List Int)} (h : SqL K H l (bs.map V.ref)) (t : TupsAt H bs cs) : Dp K H (.ref l) (dLc cs) := .lst h (dpAll_cls t)
def dLi (c : List Int) : PyData := .list (c.map .int)
theorem can_li : ∀ c : List Int, PyData.canLayAll0 (c.map PyData.int) = true
  | [] => rfl
  | _ :: c => by simp [PyData.canLayAll0, PyData.canLay0, can_li c]
theorem dep_li : ∀ c : List Int, PyData.depthAll (c.map PyData.int) ≤ 1
  | [] => Nat.zero_le _
  | _ :: c => by
    have := dep_li c
    simp only [List.map_cons, PyData.depthAll, PyData.depth]
    omega
theorem shaped_li (c : List Int) : SeqAt.shaped (dLi c) = true := by
  have h := dep_li c
  unfold SeqAt.shaped dLi
  rw [Bool.and_eq_true]
  refine ⟨by simp [PyData.canLay0, can_li], decide_eq_true ?_⟩
  simp only [PyData.depth]
  omega
theorem eqv_li (a b : List Int) : PyData.eqv (dLi a) (dLi b) = decide (a = b) := by
  unfold dLi
  simp only [PyData.eqv]
  exact eqvAll_ints a b
theorem dp_li {K : PySem.W.Frag} {H : Hp} {l : Addr} {c : List Int} (h : SqL K H l (c.map V.int)) : Dp K H (.ref l) (dLi c) := .lst h (dpAll_ints c)
end Toy

-- part: ZM4
namespace Toy
open PySem L2
theorem les_mem {last : Int} {rows : List (List Int)} (rl : ∀ r ∈ rows, ∀ x ∈ r, 1 ≤ absI x ∧ absI x ≤ last) (sm : ∀ r ∈ rows, r.length ≤ 3) : ∀ c ∈ lesC last rows, c.length ≤ 3 ∧ ∀ x ∈ c, 1 ≤ absI x ∧ absI x ≤ last := by
  intro c hc
  unfold lesC at hc
  rw [mem_foldA, List.mem_filterMap] at hc
  rcases hc with hc | ⟨r, hr, e⟩
  · cases hc
  · have e2 := clI_eq (rl r hr)
    rw [e] at e2
    split at e2
    · have e3 := Option.some.inj e2
      refine ⟨?_, fun x hx => rl r hr x ((canon_mem r x).mp (by rw [← e3]; exact hx))⟩
      rw [e3, (canon_perm r).length_eq]
      have h1 := len_fold r []
      have h2 := sm r hr
      simp only [List.length_nil, Nat.zero_add] at h1
      omega
    · cases e2
theorem len_foldA2 {α : Type} [DecidableEq α] : ∀ (l ks : List α), (l.foldl addU ks).length ≤ ks.length + l.length
  | [], _ => Nat.le_refl _
  | a :: l, ks => by
    have h := len_foldA2 l (addU ks a)
    have h2 := len_add (ks := ks) a
    show (l.foldl addU (addU ks a)).length ≤ _
    rw [List.length_cons]
    omega
def goodB (A : List Int) (cs Ws : List (List Int)) : Bool := Ws.any fun W => cs.all fun c => c.any (hd (A ++ W))
section
variable {P : Program} {w : World} {K : PySem.W.Frag} {mg : Str → Option Value} {base : Heap}
abbrev sLaw : Stmt := s_law
abbrev nLaw : List Str := ["script", "draw", "turns", "many", "turn", "line", "clauses", "answer", "due", "good", "worths", "row", "one"]
theorem scLaw : FnScope nLaw ["script"] (defScope sLaw) := ⟨rfl, rfl, rfl, by decide +kernel, rfl, by decide +kernel, by decide +kernel⟩
def spLaw (K : PySem.W.Frag) : Sp := fun vs H Q _ => ∃ (sc : Addr) (ns : List Int), vs = [.ref sc] ∧ SqL K H sc (ns.map V.int) ∧ ns.length ≤ 63 ∧ ∀ H', Q (.bl true) H'
def tNoHo (K : PySem.W.Frag) : TT := tNot (tB (tCall (spHo K) [] E0 (tCons (tVar 12) (tCons (tVar 11) tNil))))
theorem ok_law {f fX fLt fLi fE fBi fBe fLw fHo : Addr} {fd fdX fdLt fdLi fdE fdBi fdBe fdLw fdHo : FuncData} {kg : List Value → List Value → List Value} (F : Fun K "law" "law" sLaw f fd) (B' : Bl mg) (X : Df K mg "_law_next" sNext ["draw", "size"] fX fdX) (GX : FnOk P w K mg base CX0 2 fX fdX ["draw", "size"] (spNext K))
    (LT : Df K mg "_law_turn" sLTu ["draw", "many"] fLt fdLt) (GLt : FnOk P w K mg base CX0 3 fLt fdLt ["draw", "many"] (spLTu K)) (LI : Df K mg "_law_line" sLi ["draw", "many"] fLi fdLi) (GLi : FnOk P w K mg base CX0 3 fLi fdLi ["draw", "many"] (spLi K))
    (gE : mg "lesser" = some (.ref fE)) (kE : PySem.W.keepIn K (.ref fE) = true) (kb : KBn K fdE ["turn", "first", "order"] 2 ["order"] kg (fun vs zs => vs ++ zs)) (GE : FnOk P w K mg base CX0 6 fE fdE ["turn", "first", "order"] (spLe K))
    (BI : Df K mg "_law_bits" sBi ["many"] fBi fdBi) (GBi : FnOk P w K mg base CX0 1 fBi fdBi ["many"] spBi) (BE : Df K mg "_law_below" sBe ["one", "other", "line"] fBe fdBe) (GBe : FnOk P w K mg base CX0 2 fBe fdBe ["one", "other", "line"] (spBe K))
    (LW : Df K mg "_law_led_answer" sLw ["turn", "answer"] fLw fdLw) (GLw : FnOk P w K mg base CX0 2 fLw fdLw ["turn", "answer"] (spLw K)) (HO : Df K mg "_law_holds" sHo ["clause", "answer"] fHo fdHo) (GHo : FnOk P w K mg base CX0 1 fHo fdHo ["clause", "answer"] (spHo K)) : FnOk P w K mg base CX0 7 f fd ["script"] (spLaw K) := by
  refine F.ok scLaw (fun vs H Q E h => ?_) (fun cdv A0 outer s H vs Q E hr h => ?_)
  · obtain ⟨sc, ns, rfl, _⟩ := h
    rfl
  · obtain ⟨sc0, ns, rfl, hS, hn, q⟩ := h
    have hu := hu_of hr
    refine ⟨_, pss_cons (ps_set (i := 1) scLaw.nd rfl (Or.inl rfl) (pe_lst (pa_cons (pe_callTy (T := "list") call_list_of (by rfl) B'.list (by decide +kernel) (pa_cons (pv 0) pa_nil)) (pa_cons pe_int pa_nil))))
      (pss_cons (ps_for PassesOwn.never rfl (pi_range1 rfl B'.range (pa_cons (pe_callB (call_max2 rfl) (by rfl) B'.max (by decide +kernel) (pa_cons pe_int (pa_cons (pe_callB (call_min2 rfl) (by rfl) B'.min (by decide +kernel) (pa_cons pe_int (pa_cons (pe_callB call_len_seq (by rfl) B'.len PySem.boot_len (pa_cons (pv 0) pa_nil)) pa_nil))) pa_nil))) pa_nil)) (pg_name (i := 2) scLaw.nd rfl (Or.inl rfl))
        (pss_cons (ps_set (i := 3) scLaw.nd rfl (Or.inl rfl) (pe_op op_add pe_int (pe_call GX (hr.mono (by decide)) rfl X.g X.F.kp X.b .nil pass0 (pa_cons (pv 1) (pa_cons pe_int pa_nil)))))
        (pss_cons (ps_par (i := 4) (j := 5) rfl scLaw.nd rfl rfl (by decide) rfl rfl (pa_cons (pe_call GLt (hr.mono (by decide)) rfl LT.g LT.F.kp LT.b .nil pass0 (pa_cons (pv 1) (pa_cons (pv 3) pa_nil))) (pa_cons (pe_call GLi (hr.mono (by decide)) rfl LI.g LI.F.kp LI.b .nil pass0 (pa_cons (pv 1) (pa_cons (pv 3) pa_nil))) pa_nil)) (by rfl))
        (pss_cons (ps_set (i := 6) scLaw.nd rfl (Or.inl rfl) (pe_callN GE hr rfl gE kE kb pass0 (pa_cons (pv 4) (pa_cons (pe_op op_add (pv 3) pe_int) pa_nil)) (pk_cons (pv 5) pk_nil)))
        (pss_one (ps_for PassesOwn.never rfl (pi_list (pe_call GBi (hr.mono (by decide)) rfl BI.g BI.F.kp BI.b .nil pass0 (pa_cons (pv 3) pa_nil))) (pg_name (i := 7) scLaw.nd rfl (Or.inl rfl))
          (pss_cons (ps_set (i := 8) scLaw.nd rfl (Or.inl rfl) (pe_not (pe_call GBe (hr.mono (by decide)) rfl BE.g BE.F.kp BE.b .nil pass0 (pa_cons (pe_call GLw (hr.mono (by decide)) rfl LW.g LW.F.kp LW.b .nil pass0 (pa_cons (pv 4) (pa_cons (pv 7) pa_nil))) (pa_cons (pv 7) (pa_cons (pv 5) pa_nil))))))
          (pss_cons (ps_set (i := 9) scLaw.nd rfl (Or.inl rfl) pe_bl)
          (pss_cons (ps_for PassesOwn.never rfl (pi_list (pe_call GBi (hr.mono (by decide)) rfl BI.g BI.F.kp BI.b .nil pass0 (pa_cons (pv 3) pa_nil))) (pg_name (i := 10) scLaw.nd rfl (Or.inl rfl))
            (pss_cons (ps_set (i := 11) scLaw.nd rfl (Or.inr rfl) (pe_op op_catA (pv 7) (pv 10)))
            (pss_one (ps_set (i := 9) scLaw.nd rfl (Or.inl rfl) (pe_or (pv 9) (pe_one (pe_cmpR (op_eqD hr.units) (pe_lc (own := [("one", 12)]) (g := gName 12) (tt := tNoHo K) (te := tVar 12) rfl scLaw.nd (pi_list (pv 6)) (blkOk_by (own := [("one", 12)]) (N := nLaw) (sc := defScope sLaw) (by decide +kernel))
                (fun _ _ _ _ _ => pg_name (i := 12) scLaw.nd rfl (Or.inl rfl)) (fun _ _ _ _ _ => pts_one (pt_not (pt_val (pe_call GHo (hr.mono (by decide)) rfl HO.g HO.F.kp HO.b .nil pass0 (pa_cons (pv 12) (pa_cons (pv 11) pa_nil)))))) (fun _ _ _ _ _ => pv 12)) (pe_lst pa_nil) (nomark _))))))))
          (pss_one (ps_if (pt_cmpR op_ne (pv 9) (pv 8) (nomark _)) (pss_one (ps_ret pe_bl)) pss_nil)))))))))))
      (pss_one (ps_ret pe_bl))), ?_⟩
    show tSeq _ _ _ [some (.ref sc0), none, none, none, none, none, none, none, none, none, none, none, none] H
    walk_at "rd"
    refine ⟨sc0, _, rfl, .inl hS, fun sc hsc => ?_⟩
    refine ⟨by show 2 ≤ sizeLine; decide, fun d hd0 => ?_⟩
    have D1 : DrA K sc ns (upd (upd H sc (.lst (ns.map V.int))) d (.lst [.ref sc, .int 0])) d := ⟨0, upd_same, Same.seq (Same.new hd0) (SqL.of upd_same), hn, Int.le_refl _⟩
    have hS1 : SqL K (upd (upd H sc (.lst (ns.map V.int))) d (.lst [.ref sc, .int 0])) sc0 (ns.map V.int) := Same.seq (Same.trans (Same.new hsc) (Same.new hd0)) hS
    generalize upd (upd H sc (.lst (ns.map V.int))) d (.lst [.ref sc, .int 0]) = H1 at *
    have eZ : sizeLine = 16777216 := rfl
    refine ⟨_, rfl, sc0, _, rfl, .inl hS1, _, _, rfl, _, _, rfl, _, rfl, ?_, ?_, ?_⟩
    · split <;> omega
    · have q5 : (if ((ns.map V.int).length : Int) < 4 then ((ns.map V.int).length : Int) else 4) ≤ 4 := by split <;> omega
      split <;> omega
    refine for_range (fun i σ H' => ∃ (l2 l3 l4 l5 l6 l7 l8 l9 l10 l11 : Option V), σ = [some (.ref sc0), some (.ref d), l2, l3, l4, l5, l6, l7, l8, l9, l10, l11, none] ∧ DrA K sc ns H' d) ⟨_, _, _, _, _, _, _, _, _, _, rfl, D1⟩ ?_ ?_
    · rintro i σ H2 hi ⟨l2, l3, l4, l5, l6, l7, l8, l9, l10, l11, rfl, D2⟩
      show tSeq _ _ _ [some (.ref sc0), some (.ref d), some (.int (0 + (i : Int))), l3, l4, l5, l6, l7, l8, l9, l10, l11, none] H2
      refine seq_gen (fun σ' H' => ∃ n : Nat, σ' = [some (.ref sc0), some (.ref d), some (.int (0 + (i : Int))), some (.int n), l4, l5, l6, l7, l8, l9, l10, l11, none] ∧ 1 ≤ n ∧ n ≤ 4 ∧ DrA K sc ns H' d) (fun nx hnx => ?_) ?_
      · walk_at "rd"
        refine ⟨d, 4, sc, ns, rfl, by decide, D2, fun r1 H3 r10 r11 E3 D3 => ?_⟩
        walk_at "rd"
        obtain ⟨r, rfl⟩ := Int.eq_ofNat_of_zero_le r10
        refine hnx _ _ ⟨1 + r, ?_, by omega, by omega, D3⟩
        rw [show ((1 + r : Nat) : Int) = 1 + (r : Int) by omega]
      rintro σ' H3 ⟨n, rfl, n1, n4, D3⟩
      refine seq_gen (fun σ' H' => ∃ (a : Addr) (y : V) (L O : List Int), σ' = [some (.ref sc0), some (.ref d), some (.int (0 + (i : Int))), some (.int n), some (.ref a), some y, l6, l7, l8, l9, l10, l11, none] ∧ DrA K sc ns H' d ∧ H' a = some (.tup (L.map V.int)) ∧ Trn n L ∧ OrdNew H3 H' n y O) (fun nx hnx => ?_) ?_
      · unfold tPar
        walk_at "rd"
        refine ⟨d, n, sc, ns, rfl, by omega, by omega, D3, fun a L Ha tL Ea Da ha na => ?_⟩
        rw [Int.toNat_natCast] at tL
        refine ⟨d, n, sc, ns, rfl, n1, by omega, Da, fun y O Hb Eb Db hO => ?_⟩
        refine hnx _ _ ⟨a, y, L, O, rfl, Db, Eb _ _ ha (D3.nd na), tL, ?_⟩
        rcases hO with h | ⟨p, h1, h2, h3, h4⟩
        · exact .inl h
        · exact .inr ⟨p, h1, none_back Ea Da h2, h3, h4⟩
      rintro σ' H4 ⟨a, y, L, O, rfl, D4, ha, tL, hO⟩
      have ho := hO.at (K := K)
      have tO := ho.trn
      have yo : ∀ H', Same H4 H' → ((y = .non ∧ O = up n) ∨ ∃ p, y = .ref p ∧ SqL K H' p (O.map V.int)) := fun H' s' => by
        rcases hO with h | ⟨p, h1, h2, h3, h4⟩
        · exact .inl h
        · exact .inr ⟨p, h1, SqL.of (s' _ _ h3)⟩
      refine seq_gen (fun σ' H' => ∃ (B : List Int) (l : Addr) (bs : List Addr), σ' = [some (.ref sc0), some (.ref d), some (.int (0 + (i : Int))), some (.int n), some (.ref a), some y, some (.ref l), l7, l8, l9, l10, l11, none] ∧ Same H4 H' ∧ Bk n L B ∧ H' l = some (.lst (bs.map V.ref)) ∧ TupsAt H' bs (lesC ((n : Int) + 1 + n - 1) (rowsUp B ((n : Int) + 1) ((n : Int) + 1 + n - 1) O n))) (fun nx hnx => ?_) ?_
      · walk_at "rd"
        unfold tCallN
        walk_at "rd"
        refine ⟨rfl, rfl, a, y, n, L, O, (n : Int) + 1, rfl, SqT.of ha, tL, n1, by omega, ho, by omega, by omega, fun B l bs Hb bk sb nl hl tb => hnx _ _ ⟨B, l, bs, rfl, sb, bk, hl, tb⟩⟩
      rintro σ' H5 ⟨B, l, bs, rfl, s5, bk, hl, tb⟩
      have D5 := DrA.same s5 D4
      have ha5 := s5 _ _ ha
      have yo5 := fun H' s' => yo H' (Same.trans s5 s')
      have rl := rows_lt (f := (n : Int) + 1) bk tL tO (by omega) rfl n (Nat.le_refl _) n1
      have lm := les_mem rl (rowsUp_sz _ _ _ _ _)
      have iff_ := fun A (bA : Bits n A) => les_iff tL bk tO bA n1
      have lcs : (lesC ((n : Int) + 1 + n - 1) (rowsUp B ((n : Int) + 1) ((n : Int) + 1 + n - 1) O n)).length ≤ 1000 := by
        have h1 := len_foldA2 ((rowsUp B ((n : Int) + 1) ((n : Int) + 1 + n - 1) O n).filterMap (clI ((n : Int) + 1 + n - 1))) []
        have h2 := List.length_filterMap_le (clI ((n : Int) + 1 + n - 1)) (rowsUp B ((n : Int) + 1) ((n : Int) + 1 + n - 1) O n)
        have h3 := rowsUp_len B ((n : Int) + 1) ((n : Int) + 1 + n - 1) O n
        simp only [List.length_nil, Nat.zero_add] at h1
        unfold lesC
        omega
      clear rl
      generalize lesC ((n : Int) + 1 + n - 1) (rowsUp B ((n : Int) + 1) ((n : Int) + 1 + n - 1) O n) = cs at *
      refine ⟨_, rfl, n, rfl, by omega, fun la xs H6 s6 _ hla txs => ⟨la, rfl, ⟨_, SqL.of hla⟩, ?_⟩⟩
      have lb := TupsAt.len tb
      refine for_list (K := K) (a := la) (xs := xs.map V.ref) (fun j σ H' => ∃ (l7 l8 l9 l10 l11 : Option V), σ = [some (.ref sc0), some (.ref d), some (.int (0 + (i : Int))), some (.int n), some (.ref a), some y, some (.ref l), l7, l8, l9, l10, l11, none] ∧ Same H6 H') ⟨_, _, _, _, _, rfl, Same.refl H6⟩ (fun j σ H' _ ⟨_, _, _, _, _, _, e⟩ => SqL.of (e _ _ hla)) ?_ ?_
      · rintro j x σ H7 hj ⟨l7, l8, l9, l10, l11, rfl, s7⟩
        rw [List.getElem?_map] at hj
        cases ez : xs[j]? with
        | none => rw [ez] at hj; cases hj
        | some b =>
        rw [ez] at hj
        cases hj
        obtain ⟨W0, hW0, hb⟩ := TupsAt.get (TupsAt.same s7 txs) ez
        have bA := allb_len (List.mem_of_getElem? hW0)
        show tSeq _ _ _ [some (.ref sc0), some (.ref d), some (.int (0 + (i : Int))), some (.int n), some (.ref a), some y, some (.ref l), some (.ref b), l8, l9, l10, l11, none] H7
        have s57 := Same.trans s6 s7
        have hit := iff_ W0 bA
        refine seq_gen (fun σ' H' => σ' = [some (.ref sc0), some (.ref d), some (.int (0 + (i : Int))), some (.int n), some (.ref a), some y, some (.ref l), some (.ref b), some (.bl (!belowB (bitsOf n (imgs L W0)) W0 O)), l9, l10, l11, none] ∧ Same H7 H') (fun nx hnx => ?_) ?_
        · walk_at "rd"
          refine ⟨a, b, n, L, W0, rfl, SqT.of (s57 _ _ ha5), tL, n1, by omega, SqT.of hb, bA.1, bA.2, fun c H8 s8 hc => ?_⟩
          refine ⟨c, b, y, n, bitsOf n (imgs L W0), W0, O, rfl, SqT.of hc, SqT.of (s8 _ _ hb), ⟨bits_len n _, bits_01 n _⟩, bA, n1, by omega, yo5 H8 (Same.trans s57 s8), tO, fun H9 s9 => ?_⟩
          exact ⟨_, rfl, hnx _ _ ⟨rfl, Same.trans s8 s9⟩⟩
        rintro σ' H8 ⟨rfl, s8⟩
        refine seq_gen (fun σ' H' => σ' = [some (.ref sc0), some (.ref d), some (.int (0 + (i : Int))), some (.int n), some (.ref a), some y, some (.ref l), some (.ref b), some (.bl (!belowB (bitsOf n (imgs L W0)) W0 O)), some (.bl false), l10, l11, none] ∧ H' = H8) (fun nx hnx => ?_) ?_
        · walk_at "rd"
          exact hnx _ _ ⟨rfl, rfl⟩
        rintro σ' H9 ⟨rfl, rfl⟩
        refine seq_gen (fun σ' H' => ∃ (l10 l11 : Option V), σ' = [some (.ref sc0), some (.ref d), some (.int (0 + (i : Int))), some (.int n), some (.ref a), some y, some (.ref l), some (.ref b), some (.bl (!belowB (bitsOf n (imgs L W0)) W0 O)), some (.bl (goodB W0 cs (allb n))), l10, l11, none] ∧ Same H9 H') (fun nx hnx => ?_) ?_
        · refine ⟨_, rfl, n, rfl, by omega, fun lw ws H10 s10 _ hlw tws => ⟨lw, rfl, ⟨_, SqL.of hlw⟩, ?_⟩⟩
          have lws := TupsAt.len tws
          refine for_list (K := K) (a := lw) (xs := ws.map V.ref) (fun k σ H' => ∃ (l10 l11 : Option V), σ = [some (.ref sc0), some (.ref d), some (.int (0 + (i : Int))), some (.int n), some (.ref a), some y, some (.ref l), some (.ref b), some (.bl (!belowB (bitsOf n (imgs L W0)) W0 O)), some (.bl (goodB W0 cs ((allb n).take k))), l10, l11, none] ∧ Same H10 H') ⟨_, _, rfl, Same.refl H10⟩ (fun k σ H' _ ⟨_, _, _, e⟩ => SqL.of (e _ _ hlw)) ?_ ?_
          · rintro k x σ H11 hk ⟨l10, l11, rfl, s11⟩
            rw [List.getElem?_map] at hk
            cases ew : ws[k]? with
            | none => rw [ew] at hk; cases hk
            | some c =>
            rw [ew] at hk
            cases hk
            obtain ⟨W, hW, hc⟩ := TupsAt.get (TupsAt.same s11 tws) ew
            have bW := allb_len (List.mem_of_getElem? hW)
            have tk : goodB W0 cs ((allb n).take (k + 1)) = (goodB W0 cs ((allb n).take k) || cs.all fun c => c.any (hd (W0 ++ W))) := by
              unfold goodB
              rw [List.take_add_one, hW, Option.toList_some, List.any_append]
              simp
            show tSeq _ _ _ [some (.ref sc0), some (.ref d), some (.int (0 + (i : Int))), some (.int n), some (.ref a), some y, some (.ref l), some (.ref b), some (.bl (!belowB (bitsOf n (imgs L W0)) W0 O)), some (.bl (goodB W0 cs ((allb n).take k))), some (.ref c), l11, none] H11
            have s811 := Same.trans s8 (Same.trans s10 s11)
            have hb11 := s811 _ _ hb
            refine seq_gen (fun σ' H' => ∃ r, σ' = [some (.ref sc0), some (.ref d), some (.int (0 + (i : Int))), some (.int n), some (.ref a), some y, some (.ref l), some (.ref b), some (.bl (!belowB (bitsOf n (imgs L W0)) W0 O)), some (.bl (goodB W0 cs ((allb n).take k))), some (.ref c), some (.ref r), none] ∧ Same H11 H' ∧ H' r = some (.tup ((W0 ++ W).map V.int))) (fun nx2 hnx2 => ?_) ?_
            · walk_at "rd"
              refine p_catR (SqT.of hb11) hc (fun e => ?_) (by rw [List.length_map, List.length_map, bA.1, bW.1]; omega) fun r H' s' hr' => hnx2 _ _ ⟨r, rfl, s', by rw [hr', List.map_append]⟩
              have := congrArg List.length e
              rw [List.length_map, bW.1] at this
              simp at this
              omega
            rintro σ' H12 ⟨r, rfl, s12, hr12⟩
            have s512 := Same.trans s57 (Same.trans s811 s12)
            walk_at "rd"
            cases hg : goodB W0 cs ((allb n).take k) with
            | true =>
              refine iteT ⟨some (.ref c), some (.ref r), ?_, Same.trans s11 s12⟩
              rw [tk, hg]
              rfl
            | false =>
              refine iteF ?_
              refine ⟨_, rfl, l, rfl, ⟨_, SqL.of (s512 _ _ hl)⟩, fun D hD => lc_list (K := K) (a := l) (xs := bs.map V.ref) (fun m Hm => Same H12 Hm ∧ ∃ ys : List Addr, Hm D = some (.lst (ys.map V.ref)) ∧ ys.length ≤ m ∧ TupsAt Hm ys ((cs.take m).filter fun c => !c.any (hd (W0 ++ W)))) ⟨Same.new hD, [], upd_same, Nat.le_refl _, .nil⟩ (fun m Hm _ ⟨e, _⟩ => SqL.of (e _ _ (s512 _ _ hl))) ?_ ?_⟩
              · rintro m z Hm hm ⟨em, ys, hDm, ly, ty⟩
                rw [List.getElem?_map] at hm
                cases ec : bs[m]? with
                | none => rw [ec] at hm; cases hm
                | some cb =>
                rw [ec] at hm
                cases hm
                obtain ⟨cc, hcc, hcb⟩ := TupsAt.get (TupsAt.same (Same.trans s512 em) tb) ec
                have hml : m < bs.length := (List.getElem?_eq_some_iff.mp ec).1
                obtain ⟨c3, cl⟩ := lm cc (List.mem_of_getElem? hcc)
                have ef : (cs.take (m + 1)).filter (fun c => !c.any (hd (W0 ++ W))) = (cs.take m).filter (fun c => !c.any (hd (W0 ++ W))) ++ (if (!cc.any (hd (W0 ++ W))) = true then [cc] else []) := by
                  rw [List.take_add_one, hcc, List.filter_append, Option.toList_some, List.filter_cons]
                  rfl
                refine ⟨rfl, ?_⟩
                show tNoHo K [some (.ref sc0), some (.ref d), some (.int (0 + (i : Int))), some (.int n), some (.ref a), some y, some (.ref l), some (.ref b), some (.bl (!belowB (bitsOf n (imgs L W0)) W0 O)), some (.bl false), some (.ref c), some (.ref r), some (.ref cb)] Hm _
                unfold tNoHo
                refine ⟨_, rfl, _, rfl, cb, r, n + n, cc, W0 ++ W, rfl, SqT.of hcb, by omega, fun x hx => ?_, SqT.of (em _ _ hr12), by rw [List.length_append, bA.1, bW.1], fun Hq sq => ?_⟩
                · have := cl x hx
                  exact ⟨this.1, by omega⟩
                · have hDq := sq _ _ hDm
                  have nq : cb ≠ D := fun e => by rw [e, hDm] at hcb; cases hcb
                  cases hh : cc.any (hd (W0 ++ W)) with
                  | true =>
                    refine ⟨true, rfl, iteF ⟨Same.trans em sq, ys, hDq, by omega, ?_⟩⟩
                    rw [ef, hh]
                    simpa using TupsAt.same sq ty
                  | false =>
                    refine ⟨false, rfl, iteT ⟨_, rfl, _, hDq, by rw [List.length_map]; omega, Same.upl2 (Same.trans em sq) hD, ys ++ [cb], by rw [upd_same, List.map_append]; rfl, by rw [List.length_append]; show _ + 1 ≤ _; omega, ?_⟩⟩
                    rw [ef, hh]
                    refine pairApp2 (TupsAt.upd2 hDq (fun ys z => by cases z) (TupsAt.same sq ty)) (.cons ?_ .nil)
                    rw [upd_ne nq]
                    exact sq _ _ hcb
              · rintro H13 ⟨s13, ys, hD13, ly, ty⟩
                rw [List.length_map, lb, List.take_length] at ty
                refine ⟨Nat.zero_le _, fun p hp => ?_⟩
                have sp := Same.new (o := .lst []) hp
                refine p_eqD (dp_lc (SqL.of (sp _ _ hD13)) (TupsAt.same sp ty)) (dp_lc (cs := []) (bs := []) (SqL.of upd_same) .nil) (shaped_lc _) (shaped_lc _) ?_
                rw [eqv_lc]
                refine ⟨some (.ref c), some (.ref r), ?_, Same.trans s11 (Same.trans s12 (Same.trans s13 sp))⟩
                rw [tk, hg]
                have e : decide ((cs.filter fun c => !c.any (hd (W0 ++ W))) = []) = cs.all fun c => c.any (hd (W0 ++ W)) := by
                  rw [Bool.eq_iff_iff, decide_eq_true_eq, List.filter_eq_nil_iff, List.all_eq_true]
                  constructor
                  · intro h x hx
                    have := h x hx
                    simpa using this
                  · intro h x hx
                    rw [h x hx]
                    decide
                rw [e]
                rfl
          · rintro σ H11 ⟨l10, l11, rfl, s11⟩
            rw [List.length_map, lws, List.take_length]
            exact hnx _ _ ⟨l10, l11, rfl, Same.trans s10 s11⟩
        rintro σ' H10 ⟨l10', l11', rfl, s10⟩
        walk_at "rd"
        have eg : goodB W0 cs (allb n) = !belowB (bitsOf n (imgs L W0)) W0 O := by
          rw [Bool.eq_iff_iff, Bool.not_eq_true', ← hit]
          unfold goodB
          rw [List.any_eq_true]
          constructor
          · rintro ⟨W, hW, h⟩
            exact ⟨W, allb_len hW, List.all_eq_true.mp h⟩
          · rintro ⟨W, bW, h⟩
            exact ⟨W, allb_mem bW, List.all_eq_true.mpr h⟩
        rw [eg]
        refine ⟨rfl, false, by rw [decide_eq_true rfl]; rfl, iteF ?_⟩
        exact ⟨_, _, _, _, _, rfl, Same.trans s7 (Same.trans s8 s10)⟩
      · rintro σ H7 ⟨l7, l8, l9, l10, l11, rfl, s7⟩
        exact ⟨_, _, _, _, _, _, _, _, _, _, rfl, DrA.same (Same.trans s6 s7) D5⟩
    · rintro σ H2 ⟨l2, l3, l4, l5, l6, l7, l8, l9, l10, l11, rfl, _⟩
      walk_at "rd"
      exact q H2
end
end Toy

-- part: RG
namespace L2
open PySem PySem.Spec PyProof.Rows
section
variable {X : Cx}
/-- repr of nested lists and tuples -/
def rRepr (K : PySem.W.Frag) : List V → Hp → VK → Prop := fun xs H Q => ∃ a d, xs = [.ref a] ∧ Dp K H (.ref a) d ∧ d.showable = true ∧ d.hasDict = false ∧ d.depth ≤ 60 ∧ d.shown.length ≤ sizeLine ∧ Q (.str d.shown) H
theorem call_reprD (hg : X.A.guards = some []) (hu : X.A.units + 100 < cLine) : CallR X (.builtin "repr") (rRepr X.K) := by
  intro pins s σ H xs us Q I r h
  obtain ⟨a, d, rfl, hd, hs, hn, hp, hz, q⟩ := h
  obtain ⟨u, rfl, ru⟩ := vals1 r
  obtain ⟨as, hr⟩ := Dp.reads I d _ _ hd ru
  cases ru
  exact PySem.repr_of_reads' hr hs (PyData.noDict_hsm hn) hg (by omega) (fun _ _ e => e) (fun h' u tk hk => ⟨.str _, H, I.un (Un.kept hk) (I.hok.kept hk), ⟨_, rfl⟩, q⟩) hz
end
/-- a def that is called where no object's text is under way -/
structure FnG (P : Program) (w : World) (K : PySem.W.Frag) (mg : Str → Option Value) (base : Heap) (k : Nat) (f : Addr) (fd : FuncData) (ps : List Str) (sp : Sp) : Prop where
  len : ∀ vs H Q E, sp vs H Q E → vs.length = ps.length
  run : ∀ (A : Around) (outer : List Env) (s : Shared) (H : Hp) (args : Args) (us : List Value) (vs : List V) (Q : VK) (E : XK), A.guards = some [] → Room k A → Env0 P w K mg base A outer s H → BindsTo s fd args (ps.zip us) → Vals vs us → sp vs H Q E →
    codeAny (model P w) A (.call (.ref f) args) (CR CX0 outer P w H s Q E) s
theorem deeper_guards {A : Around} {env : Env} (h : A.guards = some []) : (A.deeper env).guards = some [] := by
  show _ = _
  simp [Around.deeper, h]
section
variable {P : Program} {w : World} {K : PySem.W.Frag} {mg : Str → Option Value} {base : Heap}
theorem FnG.of {x qual : Str} {st : Stmt} {f : Addr} {fd : FuncData} {N ps : List Str} {k : Nat} {sp : Sp} (F : Fun K x qual st f fd) (S : FnScope N ps (defScope st)) (len : ∀ vs H Q E, sp vs H Q E → vs.length = ps.length)
    (hbody : ∀ (cdv : Value) (A : Around) (outer : List Env) (s : Shared) (H : Hp) (vs : List V) (Q : VK) (E : XK), A.guards = some [] → Room k (A.deeper (envOfC qual (defScope st) s.heap.objs.size f cdv)) → sp vs H Q E →
      ∃ t, PSs (cxOf CX0 P w K mg base N qual (defScope st) f cdv A outer s H E).nox (defBody st) t ∧ t { nx := fun _ H' => Q .non H', rt := Q } (start N vs) H) : FnG P w K mg base (k + 1) f fd ps sp := by
  obtain ⟨oc, od, kV, doc, pm, an, cdv, ct, osl, rfl, lk, hcd⟩ := F.ex
  refine ⟨len, fun A outer s H args us vs Q E hg hr e0 hb r hsp => ?_⟩
  obtain ⟨t, ht, hq⟩ := hbody cdv A outer s H vs Q E hg (hr.deeper _) hsp
  have kp := fun b o e => (e0.bs b o e).1
  have KX : K.In s.heap := e0.mod.kin.keeps kp
  have kinds : ∀ y ∈ ps.zip us, (defScope st).names.lookup y.1 = some .local ∨ ((defScope st).names.lookup y.1 = some .cell ∧ ((cellsFrom (s.heap.objs.size + 1) (defScope st).names []).lookup y.1).isSome = true) := fun y hy =>
    (S.par y.1 (List.of_mem_zip (show (y.1, y.2) ∈ _ from hy)).1).imp id fun q => ⟨q, PySem.W.cellsFrom_some _ _ _ (.inl q)⟩
  refine codeAny_call_function hr.depth (KX _ _ lk) rfl S.co S.gen rfl (PySem.W.codeRec_of KX hcd) (hb _ _ _ _ (wpAny_newFunctionEnv_cells S.kind kinds fun env he s1 x => ?_))
  subst he
  refine ⟨(e0.mod.nolimit.keeps kp).keeps x.toInCall.keep, codeAny_func ?_⟩
  have I : Inv (cxOf CX0 P w K mg base N qual (defScope st) f cdv A outer s H E) [] (start N vs) H s1 := inv_start S hr.hd e0 (len _ _ _ _ hsp) r x
  refine wpAny_mono (ht.nox.run [] s1 (start N vs) H _ I hq) (fun fl s' hs => ?_) fun e s' hs => hs
  cases fl with
  | ret u =>
    obtain ⟨v, _, H', J, rv, q⟩ := hs
    exact ⟨v, H', J.os, J.bare, J.base, J.hok, rv, q⟩
  | next =>
    obtain ⟨_, H', J, q⟩ := hs
    exact ⟨V.non, H', J.os, J.bare, J.base, J.hok, rfl, q⟩
  | brk => exact hs.elim fun _ h => h.elim fun _ h => False.elim h.2
  | cont => exact hs.elim fun _ h => h.elim fun _ h => False.elim h.2
variable {X : Cx} {k : Nat} {f : Addr} {fd : FuncData} {ps : List Str} {sp : Sp} {x : Str} {p pos : Pos} {e : Expr} {es : List Expr} {t : TA}
theorem pe_callG (F : FnG X.prog X.w X.K X.mg X.base k f fd ps sp) (hgu : X.A.guards = some []) (hr : Room k X.A) (hg : Gl X x) (hm : X.mg x = some (.ref f)) (hk : PySem.W.keepIn X.K (.ref f) = true) (hb : Binds X.K fd ps [])
    (ha : PA X (e :: es) t) (hdb : (x == ("__debug__" : Str)) = false := by decide) (he : starEach (e :: es) X.env = (false, eval e X.env) :: starEach es X.env := by rfl) (hpl : (backTo pos (starEach es X.env)).any (·.1) = false := by rfl) :
    PE X (.Call (.Name x p) (e :: es) [] pos) (tCall sp [] E0 t) := by
  refine ⟨fun pins s σ H Q I h => wpAny_Call_Name_kw (ld_glob I hg hm (PySem.W.callWith_K (h₀ := X.base) I.ok.mod.kin hk (thn (ha.run pos pins s σ H _ I h) fun us s1 ⟨vs, H1, I1, r, q⟩ => ⟨I1.kIn, ?_⟩) he hpl) hdb)⟩
  have q : sp (vs ++ []) H1 Q E0 := q
  rw [List.append_nil] at q
  have b1 := hb s1 us I1.kIn (by rw [List.append_nil, ← r.length]; exact F.len _ _ _ _ q)
  rw [List.append_nil] at b1
  refine wpAny_call (codeAny_mono (F.run X.A X.stack s1 H1 ⟨us, []⟩ us vs Q E0 hgu hr I1.env0 b1 r q) fun r s' hq => ?_)
  cases r with
  | error e => exact pass0 pins σ H1 s1 e s' I1 hq
  | ok fl =>
    cases fl with
    | ret u => exact I1.after hq
    | next => exact False.elim hq
    | brk => exact False.elim hq
    | cont => exact False.elim hq
end
end L2

-- part: LN
namespace Toy
open PySem PySem.Spec PyProof.Rows L2
/-- what is tracked at the start of a law without a table: the script at a, if it isn't of the written part -/
def H1of (K : PySem.W.Frag) (a : Addr) (vs : List Value) (ns : List Int) : Hp := fun b =>
  if b = a ∧ K.lookup a = none then some (.frz { cls := .type "list", data := .seq vs.toArray } (.lst (ns.map V.int))) else none
theorem FnOk.g {P : Program} {w : World} {K : PySem.W.Frag} {mg : Str → Option Value} {base : Heap} {k : Nat} {f : Addr} {fd : FuncData} {ps : List Str} {sp : Sp} (F : FnOk P w K mg base CX0 k f fd ps sp) : FnG P w K mg base k f fd ps sp :=
  ⟨F.len, fun A outer s H args us vs Q E _ hr e0 hb r hsp => F.run A outer s H args us vs Q E hr e0 hb r hsp⟩
/-- a law that makes no lambda, called where no object's text is under way -/
theorem callN {P : Program} {w : World} {K : PySem.W.Frag} {mg mb : Str → Option Value} {k : Nat} {fa a : Addr} {fd : FuncData} {x : Str} {sp : Sp} {s : Shared} {vs : List Value} {ns : List Int}
    (KX : K.In s.heap) (hns : s.heap.Ns mainGlobals mg) (hb : s.heap.Ns builtinsNs mb) (hbb : ∀ x : Str, x ≠ "__name__" → mb x = bootBuiltins x) (hlim : s.heap.NoLimit) (hg : s.gens = #[])
    (ha : s.heap.get? a = some { cls := .type "list", data := .seq vs.toArray }) (hi : IntsAre vs ns) (hl : ns.length ≤ sizeLine) (hr : Room k callerA)
    (F : ∀ base : Heap, K.In base → base.Ns mainGlobals mg → FnG P w K mg base k fa fd [x] sp) (hbind : ∀ (s : Shared) (u : Value), BindsTo s fd ⟨[u], []⟩ [(x, u)])
    (hsp : ∀ H : Hp, SqL K H a (ns.map V.int) → sp [.ref a] H (fun v _ => v = .bl true) E0) :
    codeAny (model P w) callerA (.call (.ref fa) ⟨[.ref a], []⟩) (fun r s' => r = .ok (.ret (.bool true)) ∧ OldK s.heap s'.heap ∧ s'.os = s.os ∧ AllBare s'.gens) s := by
  have rv := vals_ints hi
  have two : ∀ b, (b = a ∧ K.lookup a = none ∧ H1of K a vs ns b = some (.frz { cls := .type "list", data := .seq vs.toArray } (.lst (ns.map V.int)))) ∨ H1of K a vs ns b = none := fun b => by
    by_cases e2 : b = a ∧ K.lookup a = none
    · exact .inl ⟨e2.1, e2.2, if_pos e2⟩
    · exact .inr (if_neg e2)
  have hS : SqL K (H1of K a vs ns) a (ns.map V.int) := by
    cases hk : K.lookup a with
    | none => exact .inl (.inr ⟨_, if_pos ⟨rfl, hk⟩⟩)
    | some o =>
      have e := KX a o hk
      rw [ha] at e
      cases e
      exact .inr ⟨_, vs.toArray, _, hk, rfl, rfl, rfl, by rw [List.size_toArray, hi.length]; exact hl, rv⟩
  have hok : HOk P w (H1of K a vs ns) s.heap := fun b o e => by
    rcases two b with ⟨rfl, _, z⟩ | z <;> rw [z] at e <;> cases e
    exact ⟨ha, by rw [List.length_map]; exact hl, vs, _, rv, ha⟩
  have base_of : ∀ {b : Addr} {o : Obj}, s.heap.get? b = some o → H1of K a vs ns b = none → (hidT s.heap (H1of K a vs ns)).get? b = some o := fun e n => hidT_get e n
  have outD : ∀ {b : Addr} {o : Obj} {es : Array DictEntry} {n : Nat}, s.heap.get? b = some o → o.data = .dict es n → H1of K a vs ns b = none := fun {b o es n} e d => by
    rcases two b with ⟨rfl, _, _⟩ | z
    · rw [ha] at e
      cases e
      cases d
    · exact z
  have nsK : ∀ {b : Addr} {m : Str → Option Value}, s.heap.Ns b m → (hidT s.heap (H1of K a vs ns)).Ns b m := fun {b m} ⟨o, es, ep, e, d, r⟩ => ⟨o, es, ep, base_of e (outD e d), d, r⟩
  have hKb : K.In (hidT s.heap (H1of K a vs ns)) := fun b o e => base_of (KX b o e) (by
    rcases two b with ⟨rfl, z, _⟩ | z
    · rw [z] at e; cases e
    · exact z)
  have hM : L2.Mod K mg (hidT s.heap (H1of K a vs ns)) := ⟨hKb, nsK hns, ⟨mb, nsK hb, hbb⟩, let ⟨mc, h1, h2⟩ := hlim; ⟨mc, nsK h1, h2⟩⟩
  have e0 : Env0 P w K mg (hidT s.heap (H1of K a vs ns)) callerA [] s (H1of K a vs ns) := ⟨rfl, hM, fun b o e => of_hidT e, Nat.le_of_eq (hidT_size _ _), trivial, fun b hb => absurd (show b ∈ ([] : List Addr) from hb) (by simp), hok, .of_eq hg⟩
  refine codeAny_mono ((F _ hKb (nsK hns)).run callerA [] s _ ⟨[.ref a], []⟩ [.ref a] [.ref a] _ _ rfl hr e0 (hbind s (.ref a)) (.cons rfl .nil) (hsp _ hS)) fun r s' h => ?_
  cases r with
  | error e => exact False.elim h
  | ok fl =>
    cases fl with
    | next => exact False.elim h
    | brk => exact False.elim h
    | cont => exact False.elim h
    | ret u =>
      obtain ⟨v, H', os, bare, un, hok', r', q⟩ := h
      obtain rfl : v = .bl true := q
      obtain rfl : u = Value.bool true := r'
      have key : ∀ b o, s.heap.get? b = some o → s'.heap.get? b = some o := fun b o e => by
        rcases two b with ⟨rfl, _, z⟩ | z
        · obtain ⟨e1, _⟩ := hok b _ z
          obtain ⟨e2, _⟩ := hok' b _ (un.frzs b _ _ z)
          rw [e] at e1
          cases e1
          exact e2
        · exact un.keep b o e z (by intro z; exact absurd (show b ∈ ([] : List Addr) from z) (by simp)) (by simp)
      exact ⟨rfl, ⟨fun b o e => .inl (key b o e), fun b o e => ⟨o, key b o e⟩⟩, os, bare⟩
theorem walkN {l : PySem.W.OpenLaw} {n k : Nat} {q : Program} {loose : List Str} {XP : (Str → Option Value) → Heap → Prop} {YP : World → Heap → Prop} {d : DefRec} {x : Str}
    (hn : l.most = some n) (hn2 : n ≤ sizeLine) (hdf : d.params.defaults = []) (hr : Room k callerA)
    (F : ∀ (w : World) (mg : Str → Option Value) (fa : Addr) (h : Heap), YP w h → h.Ns mainGlobals mg → mg d.name = some (.ref fa) →
      ∃ (K : PySem.W.Frag) (fd : FuncData) (sp : Sp), K.In h ∧ (∀ (s : Shared) (u : Value), BindsTo s fd ⟨[u], []⟩ [(x, u)]) ∧
        (∀ (H : Hp) (a : Addr) (ns : List Int), ns.length ≤ n → SqL K H a (ns.map V.int) → sp [.ref a] H (fun v _ => v = .bl true) E0) ∧
        ∀ base : Heap, K.In base → base.Ns mainGlobals mg → FnG l.prog w K mg base k fa fd [x] sp) :
    PySem.W.WalkO q loose XP YP l.row.toRowW d [] (fun f vs => PySem.call f vs) := by
  refine Att.attach_callB hn hdf fun w s₀ s₁ mg mb fa o pm cd doc a vs ns G Y ho hd hcd hmg hobj hints hlen hbits hg => ?_
  obtain ⟨K, fd, sp, KX, hb, hsp, hF⟩ := F w mg fa _ Y G.T.g hmg
  exact callN KX G.T.g G.T.b G.T.builtins G.T.nolimit hg hobj hints (Nat.le_trans hlen hn2) hr hF hb (fun H hS => hsp H a ns hlen hS)
end Toy

-- part: LE0
namespace Toy
open PySem PySem.Spec PyProof.Rows L2
def dT (x : Str) (st : Stmt) : He.DefD := ⟨(x, none), x, x, defArgs st, defBody st, defScope st, [], []⟩
def dTk (x : Str) (st : Stmt) (kw : List (Str × He.Dv)) : He.DefD := ⟨(x, none), x, x, defArgs st, defBody st, defScope st, [], kw⟩
def fnK : List He.DefD := [dT "is_number" (topS 5), dT "is_list" (topS 6), dT "is_letter" (topS 7), dT "clause_of" (topS 8), dT "is_turn" (topS 11), dT "still" (topS 12), dT "_is_many" (topS 13), dT "refuse_no_turn" (topS 14), dT "table_of" (topS 15), dT "led_back" (topS 16), dTk "lesser" (topS 18) [("order", .non)], dT "is_order" (topS 19), dT "lesser_clauses" (topS 20), dT "_letters_of" (topS 21), dT "_law_mixed" (topS 23), dT "_law_next" (topS 24), dT "_law_turn" (topS 25), dT "_law_goes" (topS 26), dT "_law_led_answer" (topS 27), dT "_law_line" (topS 28), dT "_law_plain" (topS 29), dT "_law_below" (topS 30), dT "_law_holds" (topS 31), dT "_law_bits" (topS 32), dT "law" (topS 33)]
def faK : List He.Fa := [.glo "is_number", .glo "is_list", .glo "is_letter", .glo "clause_of", .glo "is_turn", .glo "still", .glo "_is_many", .glo "refuse_no_turn", .glo "table_of", .glo "led_back", .glo "lesser", .glo "is_order", .glo "lesser_clauses", .glo "_letters_of", .glo "_law_mixed", .glo "_law_next", .glo "_law_turn", .glo "_law_goes", .glo "_law_led_answer", .glo "_law_line", .glo "_law_plain", .glo "_law_below", .glo "_law_holds", .glo "_law_bits", .glo "law", .int "MOST" 400]
def faB : List He.Fa := [.free "max", .free "min", .free "len", .free "range", .free "type", .free "int", .free "list", .free "tuple", .free "dict", .free "bool", .free "abs", .free "sorted", .free "enumerate", .free "isinstance", .free "repr", .free "str", .free "all", .free "any", .free "zip", .free "reversed", .free "sum", .free "set", .free "ValueError"]
def exK (_ : PySem.W.Frag) : Bool := true
abbrev R : PySem.W.OpenRow := PySem.W.OpenLaw.row PySem.Challenge.rw_turnless_k33_whole_what_clauses_say
abbrev tfK : List He.Defn := []
abbrev hk : PySem.W.Hook := He.hookX 6 (faK ++ faB) fnK [] tfK exK
def ob (s : PySem.W.SharedT) : He.AlX := He.obsX 6 (faK ++ faB) fnK [] tfK exK (HandSHeadRun.getT s)
theorem ob_eq (s : PySem.W.SharedT) : ob s = hk.obs s.abs := He.obsX_eq (HandSHeadRun.getT_eq s)
def loose0 : List Str := ["TurnError", "NoTurn", "NoLetter", "is_number", "is_list", "is_letter", "clause_of", "MOST", "is_turn", "still", "_is_many", "refuse_no_turn", "table_of", "led_back", "lesser", "is_order", "lesser_clauses", "_letters_of", "_law_mixed", "_law_next"]
def loose1 : List Str := ["_law_turn", "_law_goes", "_law_led_answer", "_law_line", "_law_plain", "_law_below", "_law_holds", "_law_bits"]
def loose : List Str := loose0 ++ loose1
theorem run (w : World) : HandSHeadRun.RunEq R (PySem.W.view R.prog [33]) hk ob 8000 loose w := by
  intro os
  kernel_rfl
end Toy

-- part: LF
namespace Toy
open PySem PySem.Spec PyProof.Rows L2
section
variable {P : Program} {w : World} {K : PySem.W.Frag} {mg : Str → Option Value} {h : Heap}
theorem fun_of {x q : Str} {st : Stmt} {f : Addr} {fd : FuncData} (F : FunD K x q (defArgs st) (defBody st) (defScope st) [] [] f fd) : Fun K x q st f fd := by
  obtain ⟨oc, od, dV, kV, doc, pm, an, cdv, ct, osl, e, lk, hcd, hD, _⟩ := F.ex
  rcases hD with ⟨_, rfl⟩ | ⟨n, _⟩
  · exact ⟨⟨oc, od, kV, doc, pm, an, cdv, ct, osl, e, lk, hcd⟩, F.kp⟩
  · exact absurd rfl n
theorem df {x : Str} {st : Stmt} {ps : List Str} {fd : FuncData} (X : K.In h) (G : h.Ns mainGlobals mg) (c : (He.Fa.glo x).ok K = true) (F : FunD K x x (defArgs st) (defBody st) (defScope st) [] [] (He.fAd K (x, none)) fd)
    (hb : ∀ (kV doc pm : Value) (an : Option Addr) (cdv ct : Value) (us : List Value), us.length = ps.length → bindArgs (PySem.W.fnOf x x (defArgs st) (defBody st) (defScope st) .none kV doc pm an cdv ct) ⟨us, []⟩ = pure (ps.zip us)) : Df K mg x st ps (He.fAd K (x, none)) fd :=
  ⟨fun_of F, He.glo_ok X G c, (fun_of F).binds hb⟩
theorem facts {f : Addr} (X : K.In h) (G : h.Ns mainGlobals mg) (hfa : mg ("law" : Str) = some (.ref f)) (c : He.SaysX (faK ++ faB) fnK [] tfK exK w h K) :
    ∃ (fd : FuncData), (∀ (s : Shared) (u : Value), BindsTo s fd ⟨[u], []⟩ [("script", u)]) ∧ ∀ base : Heap, K.In base → base.Ns mainGlobals mg → FnG P w K mg base 7 f fd ["script"] (spLaw K) := by
  have d := c.t.d
  obtain ⟨_, F0⟩ := d.def_ 0 (d := dT "is_number" (topS 5)) rfl
  obtain ⟨_, F1⟩ := d.def_ 1 (d := dT "is_list" (topS 6)) rfl
  obtain ⟨_, F2⟩ := d.def_ 2 (d := dT "is_letter" (topS 7)) rfl
  obtain ⟨_, F3⟩ := d.def_ 3 (d := dT "clause_of" (topS 8)) rfl
  obtain ⟨_, F4⟩ := d.def_ 4 (d := dT "is_turn" (topS 11)) rfl
  obtain ⟨_, F5⟩ := d.def_ 5 (d := dT "still" (topS 12)) rfl
  obtain ⟨_, F6⟩ := d.def_ 6 (d := dT "_is_many" (topS 13)) rfl
  obtain ⟨_, F7⟩ := d.def_ 7 (d := dT "refuse_no_turn" (topS 14)) rfl
  obtain ⟨_, F8⟩ := d.def_ 8 (d := dT "table_of" (topS 15)) rfl
  obtain ⟨_, F9⟩ := d.def_ 9 (d := dT "led_back" (topS 16)) rfl
  obtain ⟨_, F10⟩ := d.def_ 10 (d := dTk "lesser" (topS 18) [("order", .non)]) rfl
  obtain ⟨_, F11⟩ := d.def_ 11 (d := dT "is_order" (topS 19)) rfl
  obtain ⟨_, F12⟩ := d.def_ 12 (d := dT "lesser_clauses" (topS 20)) rfl
  obtain ⟨_, F13⟩ := d.def_ 13 (d := dT "_letters_of" (topS 21)) rfl
  obtain ⟨_, F14⟩ := d.def_ 14 (d := dT "_law_mixed" (topS 23)) rfl
  obtain ⟨_, F15⟩ := d.def_ 15 (d := dT "_law_next" (topS 24)) rfl
  obtain ⟨_, F16⟩ := d.def_ 16 (d := dT "_law_turn" (topS 25)) rfl
  obtain ⟨_, F17⟩ := d.def_ 17 (d := dT "_law_goes" (topS 26)) rfl
  obtain ⟨_, F18⟩ := d.def_ 18 (d := dT "_law_led_answer" (topS 27)) rfl
  obtain ⟨_, F19⟩ := d.def_ 19 (d := dT "_law_line" (topS 28)) rfl
  obtain ⟨_, F20⟩ := d.def_ 20 (d := dT "_law_plain" (topS 29)) rfl
  obtain ⟨_, F21⟩ := d.def_ 21 (d := dT "_law_below" (topS 30)) rfl
  obtain ⟨_, F22⟩ := d.def_ 22 (d := dT "_law_holds" (topS 31)) rfl
  obtain ⟨_, F23⟩ := d.def_ 23 (d := dT "_law_bits" (topS 32)) rfl
  obtain ⟨fd, F24⟩ := d.def_ 24 (d := dT "law" (topS 33)) rfl
  have D_is_number := df (x := "is_number") (st := topS 5) (ps := ["thing"]) X G (d.fact 0 (f := .glo "is_number") rfl) F0 fun _ _ _ _ _ _ us hl => match us, hl with | [_], _ => rfl
  have D_is_list := df (x := "is_list") (st := topS 6) (ps := ["thing"]) X G (d.fact 1 (f := .glo "is_list") rfl) F1 fun _ _ _ _ _ _ us hl => match us, hl with | [_], _ => rfl
  have D_is_letter := df (x := "is_letter") (st := topS 7) (ps := ["thing", "many"]) X G (d.fact 2 (f := .glo "is_letter") rfl) F2 fun _ _ _ _ _ _ us hl => match us, hl with | [_, _], _ => rfl
  have D_clause_of := df (x := "clause_of") (st := topS 8) (ps := ["thing", "many"]) X G (d.fact 3 (f := .glo "clause_of") rfl) F3 fun _ _ _ _ _ _ us hl => match us, hl with | [_, _], _ => rfl
  have D_is_turn := df (x := "is_turn") (st := topS 11) (ps := ["thing", "many"]) X G (d.fact 4 (f := .glo "is_turn") rfl) F4 fun _ _ _ _ _ _ us hl => match us, hl with | [_, _], _ => rfl
  have D_still := df (x := "still") (st := topS 12) (ps := ["many"]) X G (d.fact 5 (f := .glo "still") rfl) F5 fun _ _ _ _ _ _ us hl => match us, hl with | [_], _ => rfl
  have D__is_many := df (x := "_is_many") (st := topS 13) (ps := ["thing"]) X G (d.fact 6 (f := .glo "_is_many") rfl) F6 fun _ _ _ _ _ _ us hl => match us, hl with | [_], _ => rfl
  have D_refuse_no_turn := df (x := "refuse_no_turn") (st := topS 14) (ps := ["thing"]) X G (d.fact 7 (f := .glo "refuse_no_turn") rfl) F7 fun _ _ _ _ _ _ us hl => match us, hl with | [_], _ => rfl
  have D_table_of := df (x := "table_of") (st := topS 15) (ps := ["turn"]) X G (d.fact 8 (f := .glo "table_of") rfl) F8 fun _ _ _ _ _ _ us hl => match us, hl with | [_], _ => rfl
  have D_led_back := df (x := "led_back") (st := topS 16) (ps := ["turn"]) X G (d.fact 9 (f := .glo "led_back") rfl) F9 fun _ _ _ _ _ _ us hl => match us, hl with | [_], _ => rfl
  have K_lesser : FunD K "lesser" "lesser" (defArgs (topS 18)) (defBody (topS 18)) (defScope (topS 18)) [] [("order", .non)] _ _ := F10
  have g_lesser := He.glo_ok X G (d.fact 10 (f := .glo "lesser") rfl)
  obtain ⟨_, v_lesser, b_lesser⟩ := K_lesser.binds0 (ps := ["turn", "first", "order"]) 2 (by simp) rfl fun _ _ _ _ _ _ us ks h1 h2 => match us, ks, h1, h2 with | [_, _], [_], _, _ => ⟨_, _, _, _, _, _, rfl, rfl, rfl⟩
  have D_is_order := df (x := "is_order") (st := topS 19) (ps := ["thing", "many"]) X G (d.fact 11 (f := .glo "is_order") rfl) F11 fun _ _ _ _ _ _ us hl => match us, hl with | [_, _], _ => rfl
  have D_lesser_clauses := df (x := "lesser_clauses") (st := topS 20) (ps := ["turn", "first", "letters"]) X G (d.fact 12 (f := .glo "lesser_clauses") rfl) F12 fun _ _ _ _ _ _ us hl => match us, hl with | [_, _, _], _ => rfl
  have D__letters_of := df (x := "_letters_of") (st := topS 21) (ps := ["order", "many"]) X G (d.fact 13 (f := .glo "_letters_of") rfl) F13 fun _ _ _ _ _ _ us hl => match us, hl with | [_, _], _ => rfl
  have D__law_mixed := df (x := "_law_mixed") (st := topS 23) (ps := ["cell", "k"]) X G (d.fact 14 (f := .glo "_law_mixed") rfl) F14 fun _ _ _ _ _ _ us hl => match us, hl with | [_, _], _ => rfl
  have D__law_next := df (x := "_law_next") (st := topS 24) (ps := ["draw", "size"]) X G (d.fact 15 (f := .glo "_law_next") rfl) F15 fun _ _ _ _ _ _ us hl => match us, hl with | [_, _], _ => rfl
  have D__law_turn := df (x := "_law_turn") (st := topS 25) (ps := ["draw", "many"]) X G (d.fact 16 (f := .glo "_law_turn") rfl) F16 fun _ _ _ _ _ _ us hl => match us, hl with | [_, _], _ => rfl
  have D__law_goes := df (x := "_law_goes") (st := topS 26) (ps := ["turn", "letter"]) X G (d.fact 17 (f := .glo "_law_goes") rfl) F17 fun _ _ _ _ _ _ us hl => match us, hl with | [_, _], _ => rfl
  have D__law_led_answer := df (x := "_law_led_answer") (st := topS 27) (ps := ["turn", "answer"]) X G (d.fact 18 (f := .glo "_law_led_answer") rfl) F18 fun _ _ _ _ _ _ us hl => match us, hl with | [_, _], _ => rfl
  have D__law_line := df (x := "_law_line") (st := topS 28) (ps := ["draw", "many"]) X G (d.fact 19 (f := .glo "_law_line") rfl) F19 fun _ _ _ _ _ _ us hl => match us, hl with | [_, _], _ => rfl
  have D__law_plain := df (x := "_law_plain") (st := topS 29) (ps := ["line", "many"]) X G (d.fact 20 (f := .glo "_law_plain") rfl) F20 fun _ _ _ _ _ _ us hl => match us, hl with | [_, _], _ => rfl
  have D__law_below := df (x := "_law_below") (st := topS 30) (ps := ["one", "other", "line"]) X G (d.fact 21 (f := .glo "_law_below") rfl) F21 fun _ _ _ _ _ _ us hl => match us, hl with | [_, _, _], _ => rfl
  have D__law_holds := df (x := "_law_holds") (st := topS 31) (ps := ["clause", "answer"]) X G (d.fact 22 (f := .glo "_law_holds") rfl) F22 fun _ _ _ _ _ _ us hl => match us, hl with | [_, _], _ => rfl
  have D__law_bits := df (x := "_law_bits") (st := topS 32) (ps := ["many"]) X G (d.fact 23 (f := .glo "_law_bits") rfl) F23 fun _ _ _ _ _ _ us hl => match us, hl with | [_], _ => rfl
  have e := hfa.symm.trans (He.glo_ok X G (d.fact 24 (f := .glo "law") rfl))
  cases e
  have La : Fun K "law" "law" (topS 33) _ fd := fun_of F24
  have bl : Bl mg := ⟨He.free_ok X G (d.fact 26 (f := .free "max") rfl), He.free_ok X G (d.fact 27 (f := .free "min") rfl), He.free_ok X G (d.fact 28 (f := .free "len") rfl), He.free_ok X G (d.fact 29 (f := .free "range") rfl), He.free_ok X G (d.fact 30 (f := .free "type") rfl), He.free_ok X G (d.fact 31 (f := .free "int") rfl), He.free_ok X G (d.fact 32 (f := .free "list") rfl), He.free_ok X G (d.fact 33 (f := .free "tuple") rfl), He.free_ok X G (d.fact 34 (f := .free "dict") rfl), He.free_ok X G (d.fact 35 (f := .free "bool") rfl), He.free_ok X G (d.fact 36 (f := .free "abs") rfl), He.free_ok X G (d.fact 37 (f := .free "sorted") rfl), He.free_ok X G (d.fact 38 (f := .free "enumerate") rfl), He.free_ok X G (d.fact 39 (f := .free "isinstance") rfl), He.free_ok X G (d.fact 40 (f := .free "repr") rfl), He.free_ok X G (d.fact 41 (f := .free "str") rfl), He.free_ok X G (d.fact 42 (f := .free "all") rfl), He.free_ok X G (d.fact 43 (f := .free "any") rfl), He.free_ok X G (d.fact 44 (f := .free "zip") rfl), He.free_ok X G (d.fact 45 (f := .free "reversed") rfl), He.free_ok X G (d.fact 46 (f := .free "sum") rfl), He.free_ok X G (d.fact 47 (f := .free "set") rfl), He.free_ok X G (d.fact 48 (f := .free "ValueError") rfl)⟩
  have g_MOST := He.int_ok X G (d.fact 25 (f := .int "MOST" 400) rfl)
  refine ⟨fd, fun s v => FunD.bindsA (x := "law") (qual := "law") (params := defArgs (topS 33)) (body := defBody (topS 33)) (scope := defScope (topS 33)) (ps := ["script"]) F24 (fun _ _ _ _ _ _ us hl => match us, hl with | [_], _ => rfl) s [v] rfl, fun base _ _ => ?_⟩
  have GX := ok_next (P := P) (w := w) (base := base) D__law_next.F bl D__law_mixed
  have GLt := ok_ltu (P := P) (w := w) (base := base) D__law_turn.F bl D__law_mixed D__law_next
  have GLi := ok_li (P := P) (w := w) (base := base) D__law_line.F bl D__law_next GX
  have GT := ok_turn (P := P) (w := w) (base := base) D_is_turn.F bl D_is_number D_is_letter D__is_many g_MOST
  have GR := ok_ref (P := P) (w := w) (base := base) D_refuse_no_turn.F bl D_is_turn GT
  have GC := ok_lc (P := P) (w := w) (base := base) D_lesser_clauses.F bl D_is_number D_is_list D_is_letter D_clause_of D_table_of D_led_back
  have GO := ok_lo (P := P) (w := w) (base := base) D__letters_of.F bl D_is_list D_is_turn GT D_still D_is_order
  have GE := ok_le (P := P) (w := w) (base := base) K_lesser bl D_refuse_no_turn GR D_lesser_clauses GC D__letters_of GO
  obtain ⟨_, kb⟩ := K_lesser.kbinds0 (ps := ["turn", "first", "order"]) 2 ["order"] [] (fun us mv ws => us ++ ws) (by simp) (fun q h => nomatch h) (fun r1 _ r3 => r1.append r3) fun _ _ _ _ _ _ us mv ws h1 h2 h3 => match us, mv, ws, h1, h2, h3 with | [_, _], [], [_], _, _, _ => rfl
  have GBi := ok_bi (P := P) (w := w) (base := base) D__law_bits.F bl
  have GBe := ok_be (P := P) (w := w) (base := base) D__law_below.F bl D__law_plain
  have GLw := ok_lw (P := P) (w := w) (base := base) D__law_led_answer.F bl D__law_goes
  have GHo := ok_ho (P := P) (w := w) (base := base) D__law_holds.F bl
  exact FnOk.g (ok_law La bl D__law_next GX D__law_turn GLt D__law_line GLi g_lesser K_lesser.kp kb GE D__law_bits GBi D__law_below GBe D__law_led_answer GLw D__law_holds GHo)
end
end Toy

-- part: LZ
open PySem PySem.W PySem.Calls PyProof.Rows
theorem PySem.Challenge.cw_turnless_k33_whole_what_clauses_say_holds : PySem.Challenge.rw_turnless_k33_whole_what_clauses_say.Holds := by
  w_on; o_law
  refine HandSHeadRun.head_any (r := Toy.R) (q := view Toy.R.prog [33]) (H := Toy.hk) (ob := Toy.ob) (M := 8000) (loose := Toy.loose) (d := HandSHeadRun.topDef Toy.R.prog 33) (kwd := []) Toy.ob_eq
    (by kernel_rfl) (fun s => by kernel_rfl) Toy.run (by kernel_rfl) (by kernel_rfl) (by kernel_rfl) (by rfl) (by first | assumption | decide +kernel) (by decide +kernel) ⟨rfl, rfl, rfl, rfl, rfl, by decide +kernel⟩ ?hw ?hc
  case hw => w_witness2
  case hc =>
    refine Toy.walkN (l := PySem.Challenge.rw_turnless_k33_whole_what_clauses_say) (n := 63) (k := 7) (x := "script") rfl (by decide) (by kernel_rfl) ⟨rfl, by decide, by decide⟩ ?F
    intro w mg fa h Y G hmg0
    obtain ⟨K, KX, c⟩ := Y
    have hmg : mg ("law" : PySem.Str) = some (.ref fa) := by
      have e : (HandSHeadRun.topDef Toy.R.prog 33).name = ("law" : PySem.Str) := by kernel_rfl
      rw [← e]
      exact hmg0
    obtain ⟨fd, hb, hF⟩ := Toy.facts (P := (PySem.Challenge.rw_turnless_k33_whole_what_clauses_say).prog) (w := w) KX G hmg c
    exact ⟨K, fd, _, KX, hb, fun H a ns hl hS => ⟨a, ns, rfl, hS, hl, fun _ => rfl⟩, hF⟩

