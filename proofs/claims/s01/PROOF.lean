import PyProof.Rows.All
import Wide.All
import OpenK.AllK
import Wide.FinOn
import PyProof.EqAt
import PyProof.EqKinds
import PyProof.TupleCall
import KE.BitLaws
import Open.SpecLaws
import KE.OsHead
import KE.OsGo
import KE.LcSums
import KE.KSortKeySt
import KE.KSortTupG
import PyProof.SetScanFacts
import PyProof.SetKind
import PyProof.DictKinds
import PyProof.Walks
import PyProof.WalksS
import PyProof.FactsAll.set
import PyProof.DictIter
import PyProof.CollectWalk
import PyProof.Rows.SetFrom
import PyProof.Rows.SortShell
import PyProof.Rows.SortWalk
import VbhoaeSpec
import PyVbhoae
import PyFlatLaws
import PySem.Challenge.RW_pushedtables_s01_answers
set_option Elab.async false
set_option linter.all false
set_option maxRecDepth 100000
set_option maxHeartbeats 2000000
namespace My
open PySem
structure TblOk(t:SetTable)(led:Bool):Prop where
 rise:t.place.toList.Pairwise (· < ·)
 dum:t.dummies= #[]
 led:t.led=led
theorem tbl_fresh(a b:Nat)(led:Bool):TblOk (SetTable.fresh a b led) led:=⟨.nil,rfl,rfl⟩
theorem tbl_plain{t:SetTable}{led:Bool}(h:TblOk t led)(b:Bool):TblOk {t with plain:=b} led:=⟨h.rise,h.dum,h.led⟩
theorem tbl_standIn{t:SetTable}{led:Bool}(h:TblOk t led)(n:Nat):TblOk (t.standIn n) led:=by
 refine⟨?_,rfl,h.led⟩
 show(Array.range n).toList.Pairwise (· < ·)
 rw[Array.toList_range]
 exact List.pairwise_lt_range
theorem tbl_orStandIn{t:SetTable}{led:Bool}(h:TblOk t led)(n:Nat):TblOk (t.orStandIn n) led:=by
 unfold SetTable.orStandIn
 split
 ·exact h
 ·exact tbl_standIn h n
theorem below_go{xs:Array Nat}{j:Nat}(hr:xs.toList.Pairwise (· < ·)): ∀(f lo hi:Nat),hi-lo≤f→lo≤hi→hi≤xs.size→(∀i (h:i<xs.size),i<lo→xs[i]<j)→(∀i (h:i<xs.size),hi≤i→ ¬xs[i]<j)→
  SetTable.below.go xs j f lo hi≤xs.size∧(∀i (h:i<xs.size),i<SetTable.below.go xs j f lo hi→xs[i]<j)∧(∀i (h:i<xs.size),SetTable.below.go xs j f lo hi≤i→ ¬xs[i]<j):=by
 have mono: ∀a b (ha:a<xs.size) (hb:b<xs.size),a<b→xs[a]<xs[b]:=fun a b ha hb hab=>by
  have:=List.pairwise_iff_getElem.mp hr a b (by simpa using ha) (by simpa using hb) hab
  simpa using this
 intro f
 induction f with
 | zero=>
  intro lo hi h1 h2 h3 h4 h5
  have:lo=hi:=by omega
  subst this
  exact⟨h3,h4,h5⟩
 | succ f ih=>
  intro lo hi h1 h2 h3 h4 h5
  unfold SetTable.below.go
  by_cases hl:lo<hi
  ·rw[if_pos hl]
   dsimp only
   have hm:(lo+hi)/2<xs.size:=by omega
   have eg:xs.getD ((lo+hi)/2) j=xs[(lo+hi)/2]:=by simp[Array.getD,hm]
   rw[eg]
   by_cases hc:xs[(lo+hi)/2]<j
   ·rw[if_pos hc]
    refine ih _ _ (by omega) (by omega) h3 (fun i h hi'=>?_) h5
    rcases Nat.lt_or_ge i ((lo+hi)/2)with q | q
    ·exact Nat.lt_trans (mono _ _ h hm q) hc
    ·have:i=(lo+hi)/2:=by omega
     subst this
     exact hc
   ·rw[if_neg hc]
    refine ih _ _ (by omega) (by omega) (by omega) h4 (fun i h hi'=>?_)
    rcases Nat.lt_or_ge ((lo+hi)/2) i with q | q
    ·have:=mono _ _ hm h q
     omega
    ·have:i=(lo+hi)/2:=by omega
     subst this
     exact hc
  ·rw[if_neg hl]
   have:lo=hi:=by omega
   subst this
   exact⟨h3,h4,h5⟩
theorem below_spec{xs:Array Nat}(j:Nat)(hr:xs.toList.Pairwise (· < ·)):
  SetTable.below xs j≤xs.size∧(∀i (h:i<xs.size),i<SetTable.below xs j→xs[i]<j)∧(∀i (h:i<xs.size),SetTable.below xs j≤i→ ¬xs[i]<j):=
 below_go hr xs.size 0 xs.size (by omega) (by omega) (by omega) (fun i h hi=>absurd hi (by omega)) (fun i h hi=>absurd h (by omega))
theorem below_zero{xs:Array Nat}(hr:xs.toList.Pairwise (· < ·)):SetTable.below xs 0=0:=by
 obtain⟨h1,h2,h3⟩:=below_spec 0 hr
 rcases Nat.eq_zero_or_pos (SetTable.below xs 0)with h | h
 ·exact h
 ·exact absurd (h2 0 (by omega) h) (by omega)
theorem below_next{xs:Array Nat}{i:Nat}(h:i<xs.size)(hr:xs.toList.Pairwise (· < ·)):SetTable.below xs (xs[i]+1)=i+1:=by
 obtain⟨h1,h2,h3⟩:=below_spec (xs[i]+1) hr
 have mono: ∀a b (ha:a<xs.size) (hb:b<xs.size),a<b→xs[a]<xs[b]:=fun a b ha hb hab=>by
  have:=List.pairwise_iff_getElem.mp hr a b (by simpa using ha) (by simpa using hb) hab
  simpa using this
 rcases Nat.lt_trichotomy (SetTable.below xs (xs[i]+1)) (i+1)with q | q | q
 ·exact absurd (show xs[i]<xs[i]+1 by omega) (h3 i h (by omega))
 ·exact q
 ·have h4:i+1<xs.size:=by omega
  have:=h2 (i+1) h4 q
  have:=mono i (i+1) h h4 (by omega)
  omega
theorem has_nil(j:Nat):SetTable.has #[] j=false:=by simp[SetTable.has]
theorem tbl_put{t:SetTable}{led:Bool}{j:Nat}(h:TblOk t led)(hj:t.place[SetTable.below t.place j]? ≠some j):TblOk (t.put j).1 led:=by
 refine⟨?_,?_,h.led⟩
 ·show(SetTable.insertAt t.place (SetTable.below t.place j) j).toList.Pairwise (· < ·)
  obtain⟨h1,h2,h3⟩:=below_spec j h.rise
  rw[SetTable.toList_insertAt]
  refine List.pairwise_append.mpr ⟨h.rise.take,List.pairwise_cons.mpr ⟨fun b hb=>?_,h.rise.drop⟩,fun a ha b hb=>?_⟩
  ·obtain⟨i,hi,rfl⟩:=List.mem_iff_getElem.mp hb
   rw[List.getElem_drop]
   have hlt:SetTable.below t.place j+i<t.place.size:=by
    rw[List.length_drop,Array.length_toList]at hi
    omega
   have n1:=h3 _ hlt (by omega)
   rw[Array.getElem_toList]
   rcases Nat.lt_or_ge j (t.place[SetTable.below t.place j+i])with q | q
   ·exact q
   ·exfalso
    have eq:t.place[SetTable.below t.place j+i]=j:=by omega
    rcases Nat.eq_zero_or_pos i with rfl | q2
    ·exact hj (by rw[Array.getElem?_eq_getElem (by omega)];exact congrArg some eq)
    ·have hb0:SetTable.below t.place j<t.place.size:=by omega
     have:=List.pairwise_iff_getElem.mp h.rise (SetTable.below t.place j) (SetTable.below t.place j+i) (by simpa using hb0) (by simpa using hlt) (by omega)
     simp only[Array.getElem_toList]at this
     have:=h3 _ hb0 (Nat.le_refl _)
     omega
  ·obtain⟨i,hi,rfl⟩:=List.mem_iff_getElem.mp ha
   rw[List.length_take,Array.length_toList]at hi
   have ha':(t.place.toList.take (SetTable.below t.place j))[i]'(by rw[List.length_take,Array.length_toList];exact hi)=t.place[i]'(by omega):=by
    rw[List.getElem_take,Array.getElem_toList]
   rw[ha']
   have l1:=h2 i (by omega) (by omega)
   rcases List.mem_cons.mp hb with rfl | hb
   ·exact l1
   ·obtain⟨i2,hi2,rfl⟩:=List.mem_iff_getElem.mp hb
    rw[List.getElem_drop,Array.getElem_toList]
    have:=h3 (SetTable.below t.place j+i2) (by rw[List.length_drop,Array.length_toList]at hi2;omega) (by omega)
    omega
 ·show(if SetTable.has t.dummies j then _ else t.dummies)=_
  rw[h.dum,has_nil]
  rfl
theorem probe_go{t:SetTable}{f:Nat→Int}{h:Int}(hd:t.dummies= #[]): ∀(k:Nat) (p:SetTable.Probe) {j:Nat} {d:Option Nat},p.dummy=none→SetTable.probe.go t f h k p=some (.empty j d)→d=none∧t.slot j= .empty
 | 0,p,j,d,_,e=>by
  rw[SetTable.probe.go]at e
  cases e
 | k+1,p,j,d,hp,e=>by
  rw[SetTable.probe.go]at e
  have adv: ∀q:SetTable.Probe,(t.advance q).dummy =q.dummy:=by
   intro q
   unfold SetTable.advance
   split<;>rfl
  cases hs:t.slot p.j with
  | empty=>
   rw[hs]at e
   dsimp only at e
   cases e
   exact⟨hp,hs⟩
  | dummy=>
   exfalso
   unfold SetTable.slot at hs
   dsimp only at hs
   rw[hd,has_nil]at hs
   split at hs
   ·cases hs
   ·rw[if_neg (by decide)]at hs
    cases hs
  | live i=>
   rw[hs]at e
   dsimp only at e
   split at e
   ·cases e
   ·exact probe_go hd k (t.advance p) (by rw[adv];exact hp) e
theorem free_ok{t:SetTable}{h:Int}{slot:Nat}{d:Bool}(hd:t.dummies= #[])(e:t.freeSlot h=some (slot,d)):t.place[SetTable.below t.place slot]? ≠some slot:=by
 unfold SetTable.freeSlot at e
 split at e
 ·rename_i j dm q
  obtain⟨rfl,hs⟩:=probe_go hd _ _ (by rfl) q
  cases e
  intro z
  have z2:t.place[SetTable.below t.place j]? =some j:=z
  unfold SetTable.slot at hs
  dsimp only at hs
  rw[if_pos (beq_iff_eq.mpr z2)]at hs
  cases hs
 ·cases e
theorem tbl_layNew{t:SetTable}{led:Bool}(h:TblOk t led)(es:Array (Int×Value))(n:Int)(x:Value):TblOk (layNew t es n x).2.1 led:=by
 unfold layNew
 split
 ·rename_i slot d e
  exact tbl_orStandIn (tbl_put h (free_ok h.dum e)) _
 ·exact tbl_standIn h _
theorem rise_live(owner:Array (Option Nat))(m:Nat):(((List.range m).filterMap fun j=>(owner.getD j none).map (j, ·)).map (·.1)).Pairwise (· < ·):=by
 rw[List.pairwise_map,List.pairwise_filterMap]
 refine List.pairwise_lt_range.imp fun{a b} hab x hx y hy=>?_
 obtain⟨_,_,rfl⟩:=Option.map_eq_some_iff.mp hx
 obtain⟨_,_,rfl⟩:=Option.map_eq_some_iff.mp hy
 exact hab
theorem tbl_relaid{t:SetTable}{led:Bool}(h:TblOk t led){hs:Array Int}{wanted:Nat}{t':SetTable}{o:Array Nat}(e:t.relaid hs wanted=some (t',o)):TblOk t' led:=by
 unfold SetTable.relaid SetTable.laid at e
 obtain⟨owner,_,e2⟩:=Option.bind_eq_some_iff.mp e
 cases e2
 refine⟨?_,rfl,h.led⟩
 show((((List.range (SetTable.sizeAbove wanted-1+1)).filterMap fun j=>(owner.getD j none).map (j, ·)).map (·.1)).toArray).toList.Pairwise (· < ·)
 exact rise_live _ _
theorem tbl_relayAll{t:SetTable}{led:Bool}(h:TblOk t led)(es:Array (Int×Value))(wanted:Nat):TblOk (relayAll t es wanted).2.1 led:=by
 unfold relayAll
 split
 ·rename_i t' order e
  dsimp only
  split
  ·exact tbl_relaid h e
  ·exact tbl_standIn h _
 ·exact tbl_standIn h _
section
variable {prog:Program}{w:World}{A:Around}{E:Value→Shared→Prop}{s:Shared}
def SetL(prog:Program)(w:World)(h:Heap)(a:Addr)(led:Bool)(S:Int→Bool)(n:Nat):Prop:=
 ∃o es ep t,h.get? a=some o∧o.ExactSet∧o.data= .set es ep t∧ElemsOf (intKind prog w) es.toList∧(∀k,S k=true↔ ∃e∈es.toList,(intKind prog w).is k e.2=true)∧
  es.size<scanBound∧t.fits es.size=true∧es.size=n∧TblOk t led
theorem SetL.put{h:Heap}{a:Addr}{led:Bool}{o:Obj}{es es2:Array (Int×Value)}{ep:Nat}{t t2:SetTable}{S:Int→Bool}(g1:h.get? a=some o)(g2:o.ExactSet)(g3:o.data= .set es ep t)
  (g4:ElemsOf (intKind prog w) es2.toList)(g5: ∀k,S k=true↔ ∃e∈es2.toList,(intKind prog w).is k e.2=true)(g6:es2.size<scanBound)(g7:t2.fits es2.size=true)(g8:TblOk t2 led):
  (h.update a (Obj.putSet es2 t2)).get? a=some {o with data:= .set es2 (ep+1) t2}∧SetL prog w (h.update a (Obj.putSet es2 t2)) a led S es2.size:=by
 have q:=(SetOf_store (knd:=intKind prog w) g1 g2 g3 g4 g5 g6 g7).1
 exact⟨q,_,es2,ep+1,t2,q,g2,rfl,g4,g5,g6,g7,rfl,g8⟩
theorem add_tail{g:Bool→Sem Unit}(hg: ∀(b:Bool) (u:Shared) (C:Unit→Shared→Prop),C () u→wpAny (model prog w) A (g b) C E u)
  {a:Addr}{led:Bool}{o:Obj}{es es1:Array (Int×Value)}{ep:Nat}{t t1:SetTable}{S:Int→Bool}(g1:s.heap.get? a=some o)(g2:o.ExactSet)(g3:o.data= .set es ep t)
  (g4:ElemsOf (intKind prog w) es1.toList)(g5: ∀k,S k=true↔ ∃e∈es1.toList,(intKind prog w).is k e.2=true)(g6:es1.size<scanBound)(g7:t1.fits es1.size=true)(g8:TblOk t1 led)
  {d:Bool}{R:Option Bool→Shared→Prop}(fin: ∀h1,Heap.SameBut a s.heap h1→SetL prog w h1 a led S es1.size→R (some true) {s with heap:=h1}):
  wpAny (model prog w) A (do
   storeSet a es1 t1
   if (!d&&t1.tooFull)=true then do
     g (relayAll t1 es1 (SetTable.grown es1.size)).2.2
     storeSet a (relayAll t1 es1 (SetTable.grown es1.size)).1 (relayAll t1 es1 (SetTable.grown es1.size)).2.1
     pure (some true)
    else pure (some true)) R E s:=by
 obtain⟨k1,k2⟩:=SetL.put (prog:=prog) (w:=w) g1 g2 g3 g4 g5 g6 g7 g8
 refine wpAny_bind (wpAny_storeSet_of g1 g3 ?_ (fits_of_scanBound g6))
 have b1:=Heap.SameBut.update s.heap a (Obj.putSet es1 t1)
 by_cases c:(!d&&t1.tooFull)=true
 ·rw[if_pos c]
  have p1:=relayAll_perm t1 es1 (SetTable.grown es1.size)
  have p2:=relayAll_fits t1 es1 (SetTable.grown es1.size)
  have p3:=tbl_relayAll g8 es1 (SetTable.grown es1.size)
  generalize relayAll t1 es1 (SetTable.grown es1.size)=Z at p1 p2 p3 ⊢
  obtain⟨es2,t2,gv⟩:=Z
  dsimp only at p1 p2 p3 ⊢
  have z:es2.size=es1.size:=by
   have:=p1.length_eq
   simpa using this
  have g62:es2.size<scanBound:=by omega
  refine wpAny_bind (hg _ _ _ (wpAny_bind (wpAny_storeSet_of k1 rfl ?_ (fits_of_scanBound g62))))
  obtain⟨_,k3⟩:=SetL.put (prog:=prog) (w:=w) (S:=S) k1 g2 rfl (g4.perm p1) (fun k=>(g5 k).trans ⟨fun⟨e,he,q⟩=>⟨e,p1.mem_iff.mpr he,q⟩,fun⟨e,he,q⟩=>⟨e,p1.mem_iff.mp he,q⟩⟩) g62 p2 p3
  rw[z]at k3
  exact wpAny_pure (fin _ (b1.trans (Heap.SameBut.update _ a _)) k3)
 ·rw[if_neg c]
  exact wpAny_pure (fin _ b1 k2)
theorem add_hashed{a:Addr}{led:Bool}{S:Int→Bool}{n:Nat}{k:Int}{x:Value}{Q:Bool→Shared→Prop}(hk:(intKind prog w).is k x=true)(hx:x.scannable=true)(hS:SetL prog w s.heap a led S n)(hn:n+1<scanBound)
  (fin: ∀b h1,Heap.SameBut a s.heap h1→SetL prog w h1 a led (fun j=>S j || decide (j=k)) (if S k then n else n+1)→Q b {s with heap:=h1}):
  wpAny (model prog w) A (setAddHashed a x ((intKind prog w).hash k)) Q E s:=by
 obtain⟨o,es,ep,t,g1,g2,g3,g4,g5,g6,g7,g8,g9⟩:=hS
 unfold setAddHashed setAddHashedIn
 refine wpAny_holding (wpAny_bind (wpAny_setState_of g1 g3 g7 ?_))
 dsimp only
 rw[byScan_of hx g6 g4,if_pos rfl]
 unfold setAddByScan
 refine wpAny_bind (wpAny_bind (wpAny_rule (wpAny_bind (wpAny_setScan_of hk g1 g3 g7 g4 ?_))))
 cases hf:es.toList.findIdx? (fun e=>(intKind prog w).is k e.2)with
 | some j=>
  obtain⟨j1,j2,_⟩:=List.findIdx?_eq_some_iff_getElem.mp hf
  have Sk:S k=true:=(g5 k).mpr ⟨es.toList[j],List.getElem_mem j1,j2⟩
  refine wpAny_pure (wpAny_pure ?_)
  refine fin _ s.heap (Heap.SameBut.refl a s.heap) ⟨o,es,ep,t,g1,g2,g3,g4,fun i=>?_,g6,g7,by rw[Sk];exact g8,g9⟩
  rw[←g5 i,Bool.or_eq_true,decide_eq_true_eq]
  exact⟨fun q=>q.elim id fun e=>by rw[e];exact Sk,.inl⟩
 | none=>
  have Sk:S k=false:=by
   cases q:S k with
   | false=>rfl
   | true=>
    obtain⟨e,e1,e2⟩:=(g5 k).mp q
    have:=List.findIdx?_eq_none_iff.mp hf e e1
    rw[e2]at this
    cases this
  have p1:=layNew_perm t es ((intKind prog w).hash k) x
  have p2:=layNew_fits t es ((intKind prog w).hash k) x
  have p3:=tbl_layNew g9 es ((intKind prog w).hash k) x
  dsimp only
  generalize layNew t es ((intKind prog w).hash k) x=Z at p1 p2 p3 ⊢
  obtain⟨es1,t1,d,gv⟩:=Z
  dsimp only at p1 p2 p3 ⊢
  rw[Array.toList_push]at p1
  have z:es1.size=n+1:=by
   have:=p1.length_eq
   simp at this
   omega
  have e1:ElemsOf (intKind prog w) es1.toList:=(g4.push hk hx).perm p1
  have e2: ∀i,(S i || decide (i=k))=true↔ ∃e∈es1.toList,(intKind prog w).is i e.2=true:=mem_push_iff hk g5 p1
  have e3:es1.size<scanBound:=by omega
  have fin2: ∀h1,Heap.SameBut a s.heap h1→SetL prog w h1 a led (fun j=>S j || decide (j=k)) es1.size→Q true {s with heap:=h1}:=fun h1 u1 u2=>by
   refine fin true h1 u1 ?_
   rw[Sk]
   rw[z]at u2
   exact u2
  refine wpAny_bind ?_
  have gw: ∀(b:Bool) {u:Shared} {C:Unit→Shared→Prop},C () u→wpAny (model prog w) A (match b with | true=>rule "set.scan.the-table-gave-way" | false=>pure ()) C E u:=fun b u C hC=>by
   cases b<;>first | exact wpAny_pure hC | exact wpAny_rule hC
  refine gw _ ?_
  split
  ·refine wpAny_bind ?_
   rw[hashByValue_scannable 8 hx]
   refine wpAny_pure ?_
   refine add_tail (led:=led) ?_ g1 g2 g3 e1 e2 e3 ?_ ?_ ?_
   ·intro b u C hC
    cases b<;>first | exact wpAny_pure hC | exact wpAny_rule hC
   ·split
    ·exact p2
    ·exact SetTable.fits_plain_off p2
   ·split
    ·exact p3
    ·exact tbl_plain p3 false
   ·intro h1 u1 u2
    exact wpAny_pure (fin2 h1 u1 u2)
  ·refine wpAny_bind (wpAny_pure ?_)
   rw[if_pos rfl]
   refine add_tail (led:=led) ?_ g1 g2 g3 e1 e2 e3 p2 p3 ?_
   ·intro b u C hC
    cases b<;>first | exact wpAny_pure hC | exact wpAny_rule hC
   ·intro h1 u1 u2
    exact wpAny_pure (fin2 h1 u1 u2)
end
theorem perm_erase{α:Type}: ∀(l:List α) (i:Nat) (h:i<l.length),(l[i]::l.eraseIdx i).Perm l
 | a::l,0,_=> .refl _
 | a::l,i+1,h=>(List.Perm.swap a _ _).trans ((perm_erase l i (Nat.lt_of_succ_lt_succ h)).cons a)
theorem pick_go{α:Type}(next:Nat→Nat): ∀(f k:Nat) (l:List α) (out:Array α),l.length≤f→ ∃l2,(pickOrder.go next f k l out).toList =out.toList++l2∧l2.Perm l
 | 0,k,l,out,h=>by
  have:l=[]:=List.length_eq_zero_iff.mp (by omega)
  subst this
  exact⟨[],by rw[pickOrder.go,List.append_nil],.nil⟩
 | f+1,k,l,out,h=>by
  rw[pickOrder.go]
  cases e:l[next k%l.length]? with
  | none=>
   have:l=[]:=by
    cases l with
    | nil=>rfl
    | cons a l=>
     rw[List.getElem?_eq_none_iff]at e
     have:=Nat.mod_lt (next k) (show 0<(a::l).length from Nat.succ_pos _)
     omega
   subst this
   exact⟨[],(List.append_nil _).symm,.nil⟩
  | some x=>
   obtain⟨hlt,hx⟩:=List.getElem?_eq_some_iff.mp e
   obtain⟨l2,h1,h2⟩:=pick_go next f (k+1) (l.eraseIdx (next k%l.length)) (out.push x) (by rw[List.length_eraseIdx_of_lt hlt];omega)
   refine⟨x::l2,?_,?_⟩
   ·dsimp only
    rw[h1,Array.toList_push,List.append_assoc]
    rfl
   ·refine(h2.cons x).trans ?_
    rw[←hx]
    exact perm_erase _ _ hlt
theorem pick_all{α:Type}(next:Nat→Nat)(xs:Array α):(pickOrder next xs).toList.Perm xs.toList:=by
 obtain⟨l2,h1,h2⟩:=pick_go next xs.size 0 xs.toList #[] (by simp)
 unfold pickOrder
 rw[h1]
 exact h2
section
variable {M:Model}{A:Around}{E:Value→Shared→Prop}{s:Shared}
theorem choose_any{src:Source}{n:Nat}{Q:Nat→Shared→Prop}(hn:n≠0)(h: ∀i d,i<n→Q i {s with drawn:=d}):wpAny M A (choose src n) Q E s:=fun Γ p _=>by
 unfold choose
 rw[Sem.wp_choose]
 exact⟨hn,h _ _ (Nat.mod_lt _ (by omega))⟩
theorem draw_any{α:Type}: ∀(n:Nat) (l:List α) (s:Shared) (Q:List α→Shared→Prop),l.length=n→(∀l2 d,l2.Perm l→Q l2 {s with drawn:=d})→wpAny M A (drawOrder n l) Q E s
 | 0,l,s,Q,hl,h=>by
  have:l=[]:=List.length_eq_zero_iff.mp hl
  subst this
  exact wpAny_pure (h [] s.drawn .nil)
 | n+1,[],s,Q,hl,h=>by cases hl
 | n+1,a::l,s,Q,hl,h=>by
  unfold drawOrder
  refine wpAny_bind (choose_any (by simp) fun i d hi=>?_)
  rw[List.getElem?_eq_getElem hi]
  dsimp only
  refine wpAny_bind (draw_any n _ _ _ ?_ fun l2 d2 hp=>?_)
  ·rw[List.length_eraseIdx_of_lt hi]
   omega
  ·exact wpAny_pure (h _ d2 ((hp.cons _).trans (perm_erase _ _ hi)))
end
theorem slot_si_next:Slot "set_iterator" "__next__" "set_iterator.__next__":=
 .of (owner:="set_iterator") (n:="__next__") (by rw[typeLookup_type,builtinLookup_eq_fast];kernel_rfl) (by decide +kernel) (by decide +kernel) (by decide +kernel) (by first | exact .inl (by decide +kernel) | exact .inr (by decide +kernel)) (by rw[isSubtype_type];kernel_rfl)
theorem entry_si_next:entryFor table "set_iterator.__next__"=some Builtin.«set_iterator.__next__» :=entryFor_of_fast (by kernel_rfl)
theorem args_si_next(a:Value):argsOk "set_iterator.__next__" ⟨[a],[]⟩:=by unfold argsOk;kernel_rfl
theorem entry_s_iter:entryFor table "set.__iter__"=some Builtin.«frozenset.__iter__» :=
 entryFor_alias (id':="frozenset.__iter__") (by kernel_rfl) rfl (by decide +kernel) (by kernel_rfl)
section
variable {prog:Program}{w:World}{A:Around}{E:Value→Shared→Prop}{s:Shared}
abbrev byText(w:World):Bool:=w.params.followText "set-order"
def Mode(w:World)(h:Heap)(a T:Addr)(es:Array (Int×Value))(ep:Nat)(t:SetTable)(vs:List Value)(i:Nat)(first:Value):Prop:=
 (byText w=true∧(∃n:Nat,first= .int n 0)∧vs=(pickOrder (w.params.setOrder a ep) es).toList.map (·.2))∨
 (byText w=false∧(!t.plain&&decide (es.size>1))=false∧(∃n:Nat,first= .int n 0∧SetTable.below t.place n=i)∧vs=es.toList.map (·.2))∨
 (byText w=false∧first= .ref T∧ ∃(o:Obj) (ps:List Nat) (c:Nat),h.get? T=some o∧o.data= .seq (ps.map fun p:Nat=>rawInt p).toArray c∧(∀p∈ps,p<es.size)∧vs=ps.map fun p=>((es[p]?).map (·.2)).getD .none)
def ItAt(w:World)(h:Heap)(I a T:Addr)(vs:List Value)(i:Nat):Prop:=
 ∃o so es ep t first,h.get? a=some so∧so.data= .set es ep t∧t.fits es.size=true∧TblOk t (!byText w)∧h.get? I=some o∧o.cls= .type "set_iterator"∧
  o.data= .fields #[first,.int i 0,.ref a,.int es.size 0,.int ep 0]∧vs.length=es.size∧Mode w h a T es ep t vs i first
theorem setsByText_at{Q:Bool→Shared→Prop}(h:Q (byText w) s):wpAny (model prog w) A setsByText Q E s:=by
 unfold setsByText
 exact wpAny_bind (wpAny_askSetting (wpAny_pure h))
theorem setWalk_text{a:Addr}{o:Obj}{es:Array (Int×Value)}{ep:Nat}{t:SetTable}{Q:Array (Int×Value)→Shared→Prop}(hb:byText w=true)(ho:s.heap.get? a=some o)(hd:o.data= .set es ep t)(hf:t.fits es.size=true)
  (h:Q (pickOrder (w.params.setOrder a ep) es) s):wpAny (model prog w) A (setWalk a) Q E s:=by
 unfold setWalk
 refine wpAny_bind (wpAny_setState_of ho hd hf ?_)
 dsimp only
 refine wpAny_bind (setsByText_at ?_)
 rw[if_pos hb]
 exact wpAny_bind (wpAny_askSetting (wpAny_pure h))
theorem next_item{I a T:Addr}{vs:List Value}{i:Nat}{v:Value}{Q:Option Value→Shared→Prop}(h1:a≠I)(h2:T≠I)(st:ItAt w s.heap I a T vs i)(hv:vs[i]? =some v)
  (hQ: ∀h',ItAt w h' I a T vs (i+1)→(∀b o,b≠I→s.heap.get? b=some o→h'.get? b=some o)→Q (some v) {s with heap:=h'}):wpAny (model prog w) A (pyNext (.ref I)) Q E s:=by
 obtain⟨o,so,es,ep,t,first,g1,g2,g3,g4,g5,g6,g7,g8,g9⟩:=st
 have tI:s.TypeIs (.ref I) "set_iterator":=⟨o,g5,g6⟩
 unfold pyNext
 refine wpAny_bind (wpAny_attempt (wpAny_callSpecial?_slot (name:=Str.ofString "__next__") tI slot_si_next (wpAny_call_entry slot_si_next tI entry_si_next ?_ (args_si_next _))))
 unfold Builtin.«set_iterator.__next__»
 refine wpAny_bind (wpAny_pure ?_)
 refine wpAny_bind (wpAny_fieldsOf g5 g7 ?_)
 dsimp only
 refine wpAny_bind (wpAny_setEntries_of g1 g2 g3 ?_)
 rw[if_neg (by simp)]
 have hlt:i<es.size:=by
  have:=(List.getElem?_eq_some_iff.mp hv).1
  omega
 have one: ∀(f2:Value) (h0:Heap) (o0:Obj),h0.get? I=some o0→o0.cls= .type "set_iterator"→o0.data= .fields #[f2,.int i 0,.ref a,.int es.size 0,.int ep 0]→(∀b u,b≠I→s.heap.get? b=some u→h0.get? b=some u)→
   (∀h',(∀b u,b≠I→s.heap.get? b=some u→h'.get? b=some u)→Mode w h' a T es ep t vs (i+1) f2)→ ∀E2:Value→Shared→Prop,
   wpAny (model prog w) A.in1 (do setField (.ref I) 1 (rawInt ((i:Int)+1));ret v) (fun r u=> ∃x,r=Fin.done (Flow.ret x)∧wpAny (model prog w) A (pure (some x)) Q E u) E2 {s with heap:=h0}:=by
  intro f2 h0 o0 k1 k2 k3 k4 hm E2
  refine wpAny_bind (wpAny_setField k1 k3 (by simp) (wpAny_pure ⟨v,rfl,wpAny_pure ?_⟩))
  have kp: ∀b u,b≠I→s.heap.get? b=some u→(h0.update I (Obj.mapFields (·.setIfInBounds 1 (rawInt ((i:Int)+1))))).get? b=some u:=fun b u hb e=>(Heap.get?_update_other _ _ (Ne.symm hb)).trans (k4 b u hb e)
  refine hQ _ ⟨_,so,es,ep,t,f2,kp a so h1 g1,g2,g3,g4,Heap.get?_update_self _ k1 (Obj.isFreed_of_fields (Obj.data_mapFields k3 _)),(Obj.cls_mapFields ..).trans k2,?_,g8,hm _ kp⟩ kp
  rw[Obj.data_mapFields k3]
  simp[rawInt]
 have two: ∀nx:Nat,(∀h',(∀b u,b≠I→s.heap.get? b=some u→h'.get? b=some u)→Mode w h' a T es ep t vs (i+1) (.int nx 0))→ ∀E2:Value→Shared→Prop,
   wpAny (model prog w) A.in1 (do setField (.ref I) 0 (rawInt nx);setField (.ref I) 1 (rawInt ((i:Int)+1));ret v) (fun r u=> ∃x,r=Fin.done (Flow.ret x)∧wpAny (model prog w) A (pure (some x)) Q E u) E2 s:=by
  intro nx hm E2
  refine wpAny_bind (wpAny_setField g5 g7 (by simp) ?_)
  refine one (.int nx 0) _ _ (Heap.get?_update_self _ g5 (Obj.isFreed_of_fields (Obj.data_mapFields g7 _))) ((Obj.cls_mapFields ..).trans g6) ?_ (fun b u hb e=>(Heap.get?_update_other _ _ (Ne.symm hb)).trans e) hm E2
  rw[Obj.data_mapFields g7]
  simp[rawInt]
 rcases g9 with ⟨m1,⟨n,rfl⟩,m3⟩ | ⟨m1,m2,⟨n,rfl,m3⟩,m4⟩ | ⟨m1,rfl,po,ps,c,m2,m3,m4,m5⟩
 ·dsimp only
  refine wpAny_bind ?_
  unfold setNext
  refine wpAny_bind (wpAny_setState_of g1 g2 g3 ?_)
  dsimp only
  refine wpAny_bind (setsByText_at ?_)
  rw[if_pos m1,if_neg (by simp)]
  refine wpAny_bind (setWalk_text m1 g1 g2 g3 ?_)
  refine wpAny_pure ?_
  have e1:((pickOrder (w.params.setOrder a ep) es)[(i:Int).toNat]?).map (fun e=>(e.2,(n:Int).toNat))=some (v,n):=by
   rw[m3,List.getElem?_map]at hv
   obtain⟨x,hx,rfl⟩:=Option.map_eq_some_iff.mp hv
   rw[Array.getElem?_toList]at hx
   simp[hx]
  rw[e1]
  dsimp only
  exact two n (fun _ _=> .inl ⟨m1,⟨n,rfl⟩,m3⟩) _
 ·dsimp only
  refine wpAny_bind ?_
  unfold setNext
  refine wpAny_bind (wpAny_setState_of g1 g2 g3 ?_)
  dsimp only
  refine wpAny_bind (setsByText_at ?_)
  rw[if_neg (by rw[m1];decide)]
  show wpAny _ _ (if (!t.plain&&decide (es.size>1))=true then _ else _) _ _ s
  rw[if_neg (by rw[m2];decide)]
  have led:t.led=true:=by rw[g4.led,m1];rfl
  refine wpAny_bind ?_
  show wpAny _ _ (if (!t.led&& !es.isEmpty)=true then _ else _) _ _ s
  rw[if_neg (by rw[led];simp)]
  refine wpAny_pure (wpAny_pure ?_)
  have hps:t.place.size=es.size:=by
   unfold SetTable.fits at g3
   simp at g3
   exact g3.1
  have hip:i<t.place.size:=by omega
  have hpe:t.place[i]? =some t.place[i]:=Array.getElem?_eq_getElem hip
  have hve: ∃q,es[i]? =some (q,v):=by
   rw[m4,List.getElem?_map]at hv
   obtain⟨⟨q,x⟩,hx,rfl⟩:=Option.map_eq_some_iff.mp hv
   rw[Array.getElem?_toList]at hx
   exact⟨q,hx⟩
  obtain⟨q,hve⟩:=hve
  rw[Int.toNat_natCast,m3,hve,hpe]
  dsimp only
  exact two (t.place[i]+1) (fun _ _=> .inr (.inl ⟨m1,m2,⟨t.place[i]+1,rfl,below_next hip g4.rise⟩,m4⟩)) _
 ·dsimp only
  have tT:=m2
  refine wpAny_bind (wpAny_seqItems m2 m3 ?_)
  dsimp only
  rw[m5,List.getElem?_map]at hv
  obtain⟨p,hp,hpv⟩:=Option.map_eq_some_iff.mp hv
  have hpl:p<es.size:=m4 p (List.mem_of_getElem? hp)
  have e1:(ps.map fun p:Nat=>rawInt p).toArray[(i:Int).toNat]? =some (.int p 0):=by
   simp[hp,rawInt]
  rw[e1]
  dsimp only
  refine wpAny_bind ?_
  unfold setNextDrawn
  refine wpAny_bind (wpAny_setState_of g1 g2 g3 ?_)
  dsimp only
  rw[if_neg (by simp),Int.toNat_natCast]
  rw[Array.getElem?_eq_getElem hpl]at hpv ⊢
  refine wpAny_pure ?_
  have hpv2:(es.toList.get ⟨p,hpl⟩).2=v:=hpv
  rw[hpv2]
  exact one (.ref T) s.heap o g5 g6 g7 (fun _ _ _ e=>e) (fun h' k=> .inr (.inr ⟨m1,rfl,po,ps,c,k T po h2 m2,m3,m4,m5⟩)) _
theorem next_end{I a T:Addr}{vs:List Value}{Q:Option Value→Shared→Prop}(hh:A.handled=none)(st:ItAt w s.heap I a T vs vs.length)
  (hQ: ∀h',(∀b o,b≠I→s.heap.get? b=some o→h'.get? b=some o)→Q none {s with heap:=h'}):wpAny (model prog w) A (pyNext (.ref I)) Q E s:=by
 obtain⟨o,so,es,ep,t,first,g1,g2,g3,g4,g5,g6,g7,g8,g9⟩:=st
 have tI:s.TypeIs (.ref I) "set_iterator":=⟨o,g5,g6⟩
 unfold pyNext
 refine wpAny_bind (wpAny_attempt (wpAny_callSpecial?_slot (name:=Str.ofString "__next__") tI slot_si_next (wpAny_call_entry slot_si_next tI entry_si_next ?_ (args_si_next _))))
 unfold Builtin.«set_iterator.__next__»
 refine wpAny_bind (wpAny_pure ?_)
 refine wpAny_bind (wpAny_fieldsOf g5 g7 ?_)
 dsimp only
 refine wpAny_bind (wpAny_setEntries_of g1 g2 g3 ?_)
 rw[if_neg (by simp)]
 have stop: ∀(h0:Heap) (o0:Obj) (fs:Array Value),h0.get? I=some o0→o0.data= .fields fs→2<fs.size→(∀b u,b≠I→s.heap.get? b=some u→h0.get? b=some u)→ ∀Q2:Fin→Shared→Prop,
   wpAny (model prog w) A.in1 (do setField (.ref I) 2 Value.none;let x ←newExc (Value.type "StopIteration") [];raiseNew x) Q2 (fun e u=>wpAny (model prog w) A (do let x ←isInstance e (Value.type "StopIteration");if x=true then pure none else throw e) Q E u) {s with heap:=h0}:=by
  intro h0 o0 fs k1 k2 k3 k4 Q2
  refine wpAny_bind (wpAny_setField k1 k2 k3 ?_)
  refine wpAny_bind ?_
  simp only[newExc,newTuple]
  refine wpAny_bind (wpAny_newObj_type ?_ (by size_fits))
  refine wpAny_bind (m:=firstArgMember _ _) (wpAny_of_eq (a:=Value.none) (by first | rfl | (simp only[firstArgMember];rfl)) ?_)
  refine wpAny_newObj_type ?_ (by size_fits)
  simp only[raiseNew]
  refine wpAny_bind (wpAny_handled ?_)
  rw[show A.in1.handled=none from hh]
  refine wpAny_bind (wpAny_pure (wpAny_throw ?_))
  refine wpAny_bind (wpAny_isInstance (T:="StopIteration") (b:=true) ⟨_,Heap.get?_push_size _ rfl,rfl⟩ isSubtype_stop (wpAny_pure (hQ _ fun b u hb e=>?_)))
  exact Heap.get?_push_of_some _ (Heap.get?_push_of_some _ ((Heap.get?_update_other _ _ (Ne.symm hb)).trans (k4 b u hb e)))
 rcases g9 with ⟨m1,⟨n,rfl⟩,m3⟩ | ⟨m1,m2,⟨n,rfl,m3⟩,m4⟩ | ⟨m1,rfl,po,ps,c,m2,m3,m4,m5⟩
 ·dsimp only
  refine wpAny_bind ?_
  unfold setNext
  refine wpAny_bind (wpAny_setState_of g1 g2 g3 ?_)
  dsimp only
  refine wpAny_bind (setsByText_at ?_)
  rw[if_pos m1,if_neg (by simp)]
  refine wpAny_bind (setWalk_text m1 g1 g2 g3 ?_)
  refine wpAny_pure ?_
  have e1:((pickOrder (w.params.setOrder a ep) es)[((vs.length:Nat):Int).toNat]?).map (fun e=>(e.2,(n:Int).toNat))=none:=by
   have:(pickOrder (w.params.setOrder a ep) es).size =vs.length:=by
    rw[m3,List.length_map,Array.length_toList]
   simp[this]
  rw[e1]
  exact stop s.heap o _ g5 g7 (by simp) (fun _ _ _ e=>e) _
 ·dsimp only
  refine wpAny_bind ?_
  unfold setNext
  refine wpAny_bind (wpAny_setState_of g1 g2 g3 ?_)
  dsimp only
  refine wpAny_bind (setsByText_at ?_)
  rw[if_neg (by rw[m1];decide)]
  show wpAny _ _ (if (!t.plain&&decide (es.size>1))=true then _ else _) _ _ s
  rw[if_neg (by rw[m2];decide)]
  have led:t.led=true:=by rw[g4.led,m1];rfl
  refine wpAny_bind ?_
  show wpAny _ _ (if (!t.led&& !es.isEmpty)=true then _ else _) _ _ s
  rw[if_neg (by rw[led];simp)]
  refine wpAny_pure (wpAny_pure ?_)
  rw[Int.toNat_natCast,m3,Array.getElem?_eq_none (show es.size≤vs.length by omega)]
  exact stop s.heap o _ g5 g7 (by simp) (fun _ _ _ e=>e) _
 ·dsimp only
  refine wpAny_bind (wpAny_seqItems m2 m3 ?_)
  dsimp only
  have e1:(ps.map fun p:Nat=>rawInt p).toArray[((vs.length:Nat):Int).toNat]? =none:=by
   rw[m5]
   simp
  rw[e1]
  dsimp only
  refine wpAny_bind (wpAny_setField g5 g7 (by simp) ?_)
  exact stop _ _ _ (Heap.get?_update_self _ g5 (Obj.isFreed_of_fields (Obj.data_mapFields g7 _))) (Obj.data_mapFields g7 _) (by simp) (fun b u hb e=>(Heap.get?_update_other _ _ (Ne.symm hb)).trans e) _
theorem slot_si_iter:Slot "set_iterator" "__iter__" "set_iterator.__iter__":=
 .of (owner:="set_iterator") (n:="__iter__") (by rw[typeLookup_type,builtinLookup_eq_fast];kernel_rfl) (by decide +kernel) (by decide +kernel) (by decide +kernel) (by first | exact .inl (by decide +kernel) | exact .inr (by decide +kernel)) (by rw[isSubtype_type];kernel_rfl)
theorem entry_si_iter:entryFor table "set_iterator.__iter__"=some Builtin.«dict_keyiterator.__iter__» :=
 entryFor_alias (id':="dict_keyiterator.__iter__") (by kernel_rfl) rfl (by decide +kernel) (by kernel_rfl)
theorem args_si_iter(a:Value):argsOk "set_iterator.__iter__" ⟨[a],[]⟩:=by unfold argsOk;kernel_rfl
theorem walks_set(hh:A.handled=none){I a T:Addr}(h1:a≠I)(h2:T≠I)(vs:List Value):Walks prog w A I [I,a,T] [I] vs.length (fun i v=>vs[i]? =some v) (fun i h=>ItAt w h I a T vs i) where
 sub:=fun b hb=>by simp at hb;simp[hb]
 frame:=fun i h h' st k=>by
  obtain⟨o,so,es,ep,t,first,g1,g2,g3,g4,g5,g6,g7,g8,g9⟩:=st
  refine⟨o,so,es,ep,t,first,k a (by simp) _ g1,g2,g3,g4,k I (by simp) _ g5,g6,g7,g8,?_⟩
  rcases g9 with g9 | g9 | ⟨m1,m0,po,ps,c,m2,m3⟩
  ·exact .inl g9
  ·exact .inr (.inl g9)
  ·exact .inr (.inr ⟨m1,m0,po,ps,c,k T (by simp) _ m2,m3⟩)
 item:=fun i s Q E hi st hQ=>by
  refine next_item h1 h2 st (List.getElem?_eq_getElem hi) fun h' st' k=>?_
  exact hQ _ h' s.toks (List.getElem?_eq_getElem hi) st' fun b o hb e=>k b o (fun z=>hb (by simp[z])) e
 done:=fun s Q E st hQ=>next_end hh st fun h' k=>hQ h' s.toks fun b o hb e=>k b o (fun z=>hb (by simp[z])) e
 self:=fun i s Q E st hQ=>by
  obtain⟨o,so,es,ep,t,first,g1,g2,g3,g4,g5,g6,g7,g8,g9⟩:=st
  have tI:s.TypeIs (.ref I) "set_iterator":=⟨o,g5,g6⟩
  refine wpAny_pyIter_slot tI slot_si_iter (wpAny_call_entry slot_si_iter tI entry_si_iter ?_ (args_si_iter _))
  unfold Builtin.«dict_keyiterator.__iter__»
  refine wpAny_bind (wpAny_pure ?_)
  exact wpAny_pure ⟨_,rfl,"set_iterator",_,tI,slot_si_next.lookup,hQ⟩
end
theorem lk_s_len:typeLookup (.type "set") "__len__"=pure (some (.builtin "set.__len__")):=by rw[typeLookup_type,builtinLookup_eq_fast];kernel_rfl
section
variable {prog:Program}{w:World}{A:Around}{E:Value→Shared→Prop}{s:Shared}
def setVals(es:Array (Int×Value)):List Value:=es.toList.map (·.2)
theorem pick_vals(ps:List Nat)(es:Array (Int×Value))(hp:ps.Perm (List.range es.size)):(ps.map fun p=>((es[p]?).map (·.2)).getD .none).Perm (setVals es):=by
 refine(hp.map _).trans (.of_eq ?_)
 refine List.ext_getElem? fun i=>?_
 unfold setVals
 rw[List.getElem?_map,List.getElem?_map]
 rcases Nat.lt_or_ge i es.size with h | h
 ·rw[List.getElem?_range h,Array.getElem?_toList (xs:=es),Array.getElem?_eq_getElem h]
  simp[h]
 ·rw[List.getElem?_eq_none (by simpa using h),Array.getElem?_toList (xs:=es),Array.getElem?_eq_none h]
  rfl
theorem iter_set{a:Addr}{so:Obj}{es:Array (Int×Value)}{ep:Nat}{t:SetTable}{Q:Value→Shared→Prop}(g1:s.heap.get? a=some so)(gx:so.ExactSet)(g2:so.data= .set es ep t)(g3:t.fits es.size=true)(g4:TblOk t (!byText w))(hz:es.size<scanBound)
  (hQ: ∀I T vs h' d,vs.Perm (setVals es)→s.heap.objs.size≤I→a≠I→T≠I→(T=a∨s.heap.objs.size≤T)→ItAt w h' I a T vs 0→(∀b o,s.heap.get? b=some o→h'.get? b=some o)→Q (.ref I) {s with heap:=h',drawn:=d}):
  wpAny (model prog w) A (pyIter (.ref a)) Q E s:=by
 have tS:s.TypeIs (.ref a) "set":=⟨so,g1,gx.1⟩
 have la:a<s.heap.objs.size:=Heap.lt_size g1
 refine wpAny_pyIter_slot tS F.slot_set_iter (wpAny_call_entry F.slot_set_iter tS entry_s_iter ?_ (F.args_set_iter_1 _))
 unfold Builtin.«frozenset.__iter__» Builtin.Frozenset.slot0
 refine wpAny_bind (wpAny_bind (wpAny_pure ?_))
 refine wpAny_pure ?_
 unfold Builtin.Frozenset.sizeOf
 refine wpAny_bind (wpAny_bind (wpAny_setEntries_of g1 g2 g3 (wpAny_pure ?_)))
 refine wpAny_bind ?_
 unfold setDrawn
 refine wpAny_bind (wpAny_setState_of g1 g2 g3 ?_)
 dsimp only
 refine wpAny_bind (setsByText_at (wpAny_pure ?_))
 have fin: ∀(first:Value) (h0:Heap) (d:Drawn) (T:Addr) (vs:List Value),vs.Perm (setVals es)→(∀b o,s.heap.get? b=some o→h0.get? b=some o)→s.heap.objs.size≤h0.objs.size→T<h0.objs.size→(T=a∨s.heap.objs.size≤T)→(∀h',(∀b o,h0.get? b=some o→h'.get? b=some o)→Mode w h' a T es ep t vs 0 first)→
   wpAny (model prog w) A.in1 (do ret (←newFields "set_iterator" [first,rawInt 0,.ref a,rawInt es.size,rawInt (←setEpoch a)])) (fun r u=> ∃x,r=Fin.done (Flow.ret x)∧ ∃T' q,u.TypeIs x T'∧typeLookup (.type T') "__next__"=pure (some q)∧Q x u) E {s with heap:=h0,drawn:=d}:=by
  intro first h0 d T vs k1 k2 k3 k4 kT k5
  refine wpAny_bind (wpAny_setEpoch_of (k2 a so g1) g2 g3 ?_)
  refine wpAny_bind (wpAny_newObj_type (wpAny_pure ⟨_,rfl,"set_iterator",_,⟨_,Heap.get?_push_size _ rfl,rfl⟩,slot_si_next.lookup,?_⟩))
  have pu: ∀b o,h0.get? b=some o→(h0.push {cls:= .type "set_iterator",data:= .fields #[first,rawInt 0,.ref a,rawInt es.size,rawInt ep]}).get? b=some o:=fun b o e=>Heap.get?_push_of_some _ e
  refine hQ h0.objs.size T vs _ d k1 k3 (Nat.ne_of_lt (Nat.lt_of_lt_of_le la k3)) (Nat.ne_of_lt k4) kT ⟨_,so,es,ep,t,first,pu a so (k2 a so g1),g2,g3,g4,Heap.get?_push_size _ rfl,rfl,rfl,?_,k5 _ pu⟩ fun b o e=>pu b o (k2 b o e)
  rw[k1.length_eq]
  simp[setVals]
 show wpAny _ _ (if (!byText w&&(!t.plain&&decide (es.size>1)))=true then _ else _) _ _ s
 cases hb:byText w with
 | true=>
  rw[if_neg (by simp)]
  refine wpAny_bind (wpAny_pure ?_)
  refine fin (rawInt 0) s.heap s.drawn a _ ?_ (fun _ _ e=>e) (Nat.le_refl _) la (.inl rfl) fun h' _=> .inl ⟨hb,⟨0,rfl⟩,rfl⟩
  exact(pick_all _ es).map _
 | false=>
  cases hd:(!t.plain&&decide (es.size>1))with
  | false=>
   rw[if_neg (by simp)]
   refine wpAny_bind (wpAny_pure ?_)
   exact fin (rawInt 0) s.heap s.drawn a (setVals es) (.refl _) (fun _ _ e=>e) (Nat.le_refl _) la (.inl rfl) fun h' _=> .inr (.inl ⟨hb,hd,⟨0,rfl,below_zero g4.rise⟩,rfl⟩)
  | true=>
   rw[if_pos (by simp)]
   refine wpAny_bind (draw_any es.size (List.range es.size) s _ (by simp) fun ps d hp=>?_)
   refine wpAny_bind ?_
   simp only[newTuple]
   refine wpAny_newObj_type ?_ ?_
   ·refine fin (.ref s.heap.objs.size) _ d s.heap.objs.size _ (pick_vals ps es hp) (fun b o e=>Heap.get?_push_of_some _ e) ?_ ?_ (.inr (Nat.le_refl _)) fun h' k=> .inr (.inr ⟨hb,rfl,_,ps,_,k _ _ (Heap.get?_push_size _ rfl),rfl,fun p q=>List.mem_range.mp (hp.mem_iff.mp q),rfl⟩)
    ·rw[Heap.size_push]
     exact Nat.le_succ _
    ·rw[Heap.size_push]
     exact Nat.lt_succ_self _
   ·show(List.map (fun i:Nat=>rawInt i) ps).toArray.size ≤sizeLine
    have e:(List.map (fun i:Nat=>rawInt i) ps).toArray.size =es.size:=by
     have:=hp.length_eq
     simpa using this
    rw[e]
    exact fits_of_scanBound hz
theorem collect_set{a:Addr}{so:Obj}{es:Array (Int×Value)}{ep:Nat}{t:SetTable}{Q:List Value→Shared→Prop}(hh:A.handled=none)(g1:s.heap.get? a=some so)(gx:so.ExactSet)(g2:so.data= .set es ep t)(g3:t.fits es.size=true)(g4:TblOk t (!byText w))(hz:es.size<scanBound)
  (hQ: ∀vs h' d tk,vs.Perm (setVals es)→s.toks≤tk→s.heap.objs.size≤h'.objs.size→(∀b o,s.heap.get? b=some o→h'.get? b=some o)→Q vs {s with heap:=h',drawn:=d,toks:=tk}):wpAny (model prog w) A (collect (.ref a)) Q E s:=by
 have la:a<s.heap.objs.size:=Heap.lt_size g1
 unfold collect
 refine wpAny_bind (wpAny_runValue (codeAny_builtin F.entry_proto_collect ?_))
 rw[Around.under_plainId F.plain_proto_collect _]
 show wpAny _ A.in1 (newList []>>=fun l=>again (.builtin "list.__iadd__" ⟨[l,.ref a],[]⟩)) _ _ s
 refine wpAny_bind (wpAny_newObj_type ?_)
 refine wpAny_pure ⟨plainId_quiet F.plain_list_iadd _,codeAny_builtin F.entry_list_iadd ?_⟩
 rw[Around.under_plainId F.plain_list_iadd _]
 have p1: ∀b o,s.heap.get? b=some o→(s.heap.push {cls:= .type "list",data:= .seq ([]:List Value).toArray }).get? b=some o:=fun b o e=>Heap.get?_push_of_some _ e
 have ol:(s.heap.push {cls:= .type "list",data:= .seq ([]:List Value).toArray }).get? s.heap.objs.size=some {cls:= .type "list",data:= .seq ([]:List Value).toArray }:=Heap.get?_push_size _ rfl
 have zl:s.heap.objs.size<(s.heap.push {cls:= .type "list",data:= .seq ([]:List Value).toArray }).objs.size :=Heap.lt_size ol
 generalize (s.heap.push {cls:= .type "list",data:= .seq ([]:List Value).toArray }:Heap)=h1 at p1 ol zl ⊢
 have nl:Builtin.List.listSameRef (.ref s.heap.objs.size) (.ref a)=false:=by
  simp[Builtin.List.listSameRef]
  exact Nat.ne_of_gt la
 show wpAny _ A.in1 (Builtin.List.listExtendWith (.ref s.heap.objs.size) (.ref a) (.ref s.heap.objs.size)) _ _ _
 unfold Builtin.List.listExtendWith
 refine wpAny_bind (wpAny_typeOf (T:="set") ⟨so,p1 a so g1,gx.1⟩ ?_)
 rw[if_neg (by rw[nl];decide)]
 refine wpAny_bind (iter_set (s:={s with heap:=h1}) (p1 a so g1) gx g2 g3 g4 hz fun I T vs h2 d k1 k2 k3 k4 k5 k6 k7=>?_)
 refine wpAny_bind (wpAny_holding ?_)
 have tS:Shared.TypeIs {s with heap:=h2,drawn:=d} (.ref a) "set":=⟨so,k7 a so (p1 a so g1),gx.1⟩
 unfold Builtin.List.listLengthHint
 refine wpAny_bind (wpAny_specialOf tS lk_s_len ?_)
 dsimp only
 rw[show splitId "set.__len__"=some ("set","__len__")from by decide +kernel]
 dsimp only
 refine wpAny_bind (wpAny_isInstance (b:=true) tS (by rw[isSubtype_type];kernel_rfl) ?_)
 rw[if_neg (by decide)]
 show wpAny _ _ (if true=true then _ else _) _ _ _
 rw[if_pos rfl]
 refine wpAny_bind (wpAny_typeOf tS ?_)
 refine wpAny_pure ?_
 show wpAny _ _ (if true=true then _ else _) _ _ _
 rw[if_pos rfl]
 refine wpAny_bind (wpAny_rule ?_)
 refine wpAny_bind ?_
 show wpAny _ A.in1 (updateSeq s.heap.objs.size (·.push .none)>>=fun _=>updateSeq s.heap.objs.size (·.pop)) _ _ _
 have o2:=k7 _ _ ol
 refine wpAny_bind (wpAny_updateSeq o2 rfl ?_)
 have o3:=Heap.get?_update_self (Obj.mapSeq (·.push Value.none)) o2 rfl
 refine wpAny_updateSeq o3 rfl ?_
 have o4:=Heap.get?_update_self (Obj.mapSeq (·.pop)) o3 rfl
 have lI:I<h2.objs.size:=by
  obtain⟨o,_,_,_,_,_,_,_,_,_,q,_⟩:=k6
  exact Heap.lt_size q
 have nSI:s.heap.objs.size≠I:=Nat.ne_of_lt (Nat.lt_of_lt_of_le zl k2)
 have ot: ∀b o,b≠s.heap.objs.size→h2.get? b=some o→((h2.update s.heap.objs.size (Obj.mapSeq (·.push Value.none))).update s.heap.objs.size (Obj.mapSeq (·.pop))).get? b=some o:=
  fun b o hb e=>(Heap.get?_update_other _ _ (Ne.symm hb)).trans ((Heap.get?_update_other _ _ (Ne.symm hb)).trans e)
 have nSa:s.heap.objs.size≠a:=Nat.ne_of_gt la
 have nST:s.heap.objs.size≠T:=by
  rcases k5 with rfl | q
  ·exact nSa
  ·exact Nat.ne_of_lt (Nat.lt_of_lt_of_le zl q)
 have nf:s.heap.objs.size∉ [I,a,T]:=by
  simp only[List.mem_cons,List.not_mem_nil,or_false,not_or]
  exact⟨nSI,nSa,nST⟩
 have W:=(walks_set (prog:=prog) (w:=w) (A:=A.in1) hh k3 k4 vs).toS
 have hn:vs.length≤sizeLine:=by
  rw[k1.length_eq]
  unfold setVals
  rw[List.length_map,Array.length_toList]
  exact fits_of_scanBound hz
 have st3:=(walks_set (prog:=prog) (w:=w) (A:=A.in1) hh k3 k4 vs).frame 0 h2 _ k6 fun b hb o e=>ot b o (fun q=>nf (by rw[←q];exact hb)) e
 refine wpAny_pure ⟨plainId_quiet F.plain_extend_loop _,codeAny_extend_loopS W hn _ nf _ vs.length 0 _ _ _ rfl (Nat.zero_le _) st3 o4 (ItemsOf.nil _) fun s9 acc c9 hm h9 hacc=>?_⟩
 show wpAny _ A (load s.heap.objs.size>>=_) _ _ s9
 refine wpAny_bind (wpAny_load h9 ?_)
 have ev:acc.toList=vs:=by
  refine List.ext_getElem? fun i=>?_
  rw[Array.getElem?_toList]
  rcases Nat.lt_or_ge i acc.size with q | q
  ·have:=hacc.2 i acc[i] (Array.getElem?_eq_getElem q)
   rw[Array.getElem?_eq_getElem q,this]
  ·rw[Array.getElem?_eq_none q,List.getElem?_eq_none (by rw[←hacc.1];exact q)]
 refine wpAny_pure ?_
 rw[ev]
 obtain⟨h10,g10,d10,t10,o10⟩:=s9
 have eg:g10=s.gens:=hm.gens
 have ed:d10=d:=hm.drawn
 have eo:o10=s.os:=hm.os
 subst eg ed eo
 refine hQ vs h10 _ t10 k1 hm.toks (Nat.le_of_lt (Heap.lt_size h9)) fun b o e=>?_
 have hbl:b<s.heap.objs.size:=Heap.lt_size e
 refine hm.heap b o ?_ (ot b o (Nat.ne_of_lt hbl) (k7 b o (p1 b o e)))
 simp only[List.mem_cons,List.not_mem_nil,or_false,not_or]
 exact⟨Nat.ne_of_lt hbl,Nat.ne_of_lt (Nat.lt_of_lt_of_le (Nat.lt_trans hbl zl) k2)⟩
end
end My
namespace My
open PySem PySem.Spec PyProof.Rows
section
variable {prog:Program}{w:World}{A:Around}{E:Value→Shared→Prop}{s:Shared}
theorem SetL.congr{h:Heap}{a:Addr}{led:Bool}{S S':Int→Bool}{n:Nat}(x:SetL prog w h a led S n)(e: ∀k,S k=S' k):SetL prog w h a led S' n:=by
 have:S=S':=funext e
 rw[←this]
 exact x
theorem SetL.kept{h h':Heap}{a:Addr}{led:Bool}{S:Int→Bool}{n:Nat}(x:SetL prog w h a led S n)(e: ∀o,h.get? a=some o→h'.get? a=some o):SetL prog w h' a led S n:=by
 obtain⟨o,es,ep,t,g1,r⟩:=x
 exact⟨o,es,ep,t,e o g1,r⟩
abbrev memS(ns:List Int):Int→Bool:=fun k=>decide (k∈ns)
theorem memS_snoc{ns:List Int}{i:Nat}{x:Int}(h:ns[i]? =some x)(k:Int):(memS (ns.take i) k || decide (k=x))=memS (ns.take (i+1)) k:=by
 unfold memS
 rw[List.take_add_one,h,Bool.eq_iff_iff]
 simp
theorem upd_loop{I:Addr}{fp wr:List Addr}{G:Array GenState→Array GenState→Prop}{St:Nat→Shared→Prop}{ns:List Int}{R:Result→Shared→Prop}{led:Bool}
  (W:WalksS prog w A.in1 I fp wr G ns.length (fun i v=> ∃x u,ns[i]? =some x∧v= .int x u) St)(S:Addr)(nf:S∉fp)(hb:ns.length+1<scanBound):
  ∀(k i:Nat) (s:Shared) (n:Nat),ns.length-i=k→i≤ns.length→St i s→n≤i→SetL prog w s.heap S led (memS (ns.take i)) n→
   (∀s' n',Moved (S::wr) G s s'→n'≤ns.length→SetL prog w s'.heap S led (memS ns) n'→R (.ok (.ret .none)) s')→codeAny (model prog w) A (.builtin "set.update.loop" ⟨[.ref S,.ref I],[]⟩) R s:=by
 have nw:S∉wr:=fun h=>nf (W.sub _ h)
 have sb: ∀b∈wr,b∈S::wr:=fun b hb=>List.mem_cons_of_mem _ hb
 intro k
 induction k with
 | zero=>
  intro i s n hk hi st hn hS hR
  have:i=ns.length:=by omega
  subst this
  refine codeAny_builtin F.entry_set_update_loop ?_
  rw[Around.under_plainId F.plain_set_update_loop _]
  show wpAny _ A.in1 (pyNext (.ref I)>>=_) _ _ s
  refine wpAny_bind (W.done s _ _ st fun s' hm=>?_)
  show wpAny _ A.in1 (ret Value.none) _ _ s'
  rw[List.take_length]at hS
  exact wpAny_pure (hR s' n (hm.mono sb) hn (hS.kept fun o e=>hm.heap S o nw e))
 | succ k ih=>
  intro i s n hk hi st hn hS hR
  have hlt:i<ns.length:=by omega
  refine codeAny_builtin F.entry_set_update_loop ?_
  rw[Around.under_plainId F.plain_set_update_loop _]
  show wpAny _ A.in1 (pyNext (.ref I)>>=_) _ _ s
  refine wpAny_bind (W.item i s _ _ hlt st fun v s' hP st' hm=>?_)
  obtain⟨x,u,hx,rfl⟩:=hP
  have hS':=hS.kept (h':=s'.heap) fun o e=>hm.heap S o nw e
  show wpAny _ A.in1 (holding [Value.int x u] (setAdd S (.int x u))>>=_) _ _ s'
  refine wpAny_bind (wpAny_holding ?_)
  unfold setAdd
  refine wpAny_holding (wpAny_bind ((intKind prog w).pyHash (k:=x) (intKind_is _ _ _ _) ?_))
  refine add_hashed (s:={s' with toks:=s'.toks+1}) (intKind_is _ _ _ _) rfl hS' (by omega) fun b h2 hsb hS2=>?_
  have hS3:=hS2.congr (memS_snoc hx)
  refine wpAny_pure ⟨plainId_quiet F.plain_set_update_loop _,ih (i+1) _ _ (by omega) hlt (W.frame _ s' _ _ st' (Nat.le_succ _) fun c hc o e=>?_) ?_ hS3 fun s9 n9 hm9 hn9 hS9=>?_⟩
  ·rw[hsb.2 c (fun q:c=S=>nf (by rw[←q];exact hc))]
   exact e
  ·split<;>omega
  ·refine hR s9 n9 (Moved.trans W.gtrans ((hm.mono sb).then_heap (Nat.le_succ _) fun c o hc e=>?_) hm9) hn9 hS9
   rw[hsb.2 c (fun q:c=S=>hc (by rw[q];exact List.mem_cons_self))]
   exact e
theorem walks_weak{I:Addr}{fp wr:List Addr}{G:Array GenState→Array GenState→Prop}{n m:Nat}{P P':Nat→Value→Prop}{St:Nat→Shared→Prop}(W:WalksS prog w A I fp wr G n P St)(e:n=m)(hP: ∀i v,P i v→P' i v):WalksS prog w A I fp wr G m P' St:=by
 subst e
 exact⟨W.sub,W.grefl,W.gtrans,W.frame,fun i s Q E hi st hQ=>W.item i s Q E hi st fun v s' hv=>hQ v s' (hP i v hv),W.done,W.self⟩
theorem ints_get: ∀{vs:List Value} {ns:List Int} {i:Nat} {v:Value},IntsAre vs ns→vs[i]? =some v→ ∃x u,ns[i]? =some x∧v= .int x u
 | _,_,i,v,.nil,h=>by simp at h
 | _,_,0,v,.cons n t hr,h=>by
  simp at h
  exact⟨n,t,rfl,h.symm⟩
 | _,_,i+1,v,.cons n t hr,h=>ints_get (i:=i) hr h
abbrev newS(w:World):Obj:={cls:= .type "set",dict:=none,data:= .set #[] 0 (.fresh 0 0 (!byText w))}
theorem set_new1(a:Value){Q:Value→Shared→Prop}(h:Q (.ref s.heap.objs.size) {s with heap:=s.heap.push (newS w)}):
  codeAny (model prog w) A (.call (.builtin "set.__new__") ⟨[.type "set",a],[]⟩) (wants Q E) s:=by
 refine codeAny_of_tree ?_
 show wpAny _ A.in1 (do checkBuiltinCall "set.__new__" ⟨[.type "set",a],[]⟩;again (.builtin "set.__new__" ⟨[.type "set",a],[]⟩)) _ _ s
 refine wpAny_bind (wpAny_of_eq (PySem.F.newCall_set_1 a) (wpAny_pure ⟨plainId_quiet PySem.F.plain_set_new _,codeAny_builtin PySem.F.entry_set_new ?_⟩))
 rw[Around.under_plainId PySem.F.plain_set_new _]
 unfold Builtin.«set.__new__» Builtin.Frozenset.newClass
 have hsub:=sub_set_self
 obtain⟨hp,g,d,tk,os⟩:=s
 dsimp only at h ⊢
 wp_walk
 refine wpAny_askSetting (wpAny_pure ?_)
 dsimp only
 simp only[newObj]
 refine wpAny_bind (wpAny_alloc (wpAny_pure ?_))
 exact wpAny_pure h
set_option maxHeartbeats 3200000 in
theorem call_set{l:Addr}{items:Array Value}{ns:List Int}{Q:Value→Shared→Prop}(hh:A.handled=none)(hl:s.heap.IsList l items)(hi:IntsAre items.toList ns)(hb:ns.length+1<scanBound)
  (h: ∀(h':Heap) (tk n:Nat),n≤ns.length→SetL prog w h' s.heap.objs.size (!byText w) (memS ns) n→(∀b o,b<s.heap.objs.size→s.heap.get? b=some o→h'.get? b=some o)→s.toks≤tk→Q (.ref s.heap.objs.size) {s with heap:=h',toks:=tk}):
  wpAny (model prog w) A (call (.type "set") [.ref l]) Q E s:=by
 obtain⟨c,tl,hmro⟩:=PySem.F.called_set.mro
 have hmade:=PySem.F.called_set.made
 have hsub:=PySem.F.called_set.sub
 refine wpAny_call (codeAny_of_tree ?_)
 show wpAny _ _ (callAny (.type "set") _) _ _ _
 refine wpAny_pure ⟨Code.quiet_builtin _ (by decide +kernel),codeAny_builtin F.entry_type_call ?_⟩
 rw[Around.under_plain (weight_type_call_type "set" [.ref l] []) rfl]
 have h1:=PySem.F.called_set.notType
 have h2:=PySem.F.called_set.canCreate
 have hct:=PySem.F.typeCall_set_1 (.ref l)
 repeat (any_goals (first | assumption | wp_step))
 refine codeAny_mono (set_new1 (.ref l) (E:=E) (Q:=fun v u=>v= .ref s.heap.objs.size∧u={s with heap:=s.heap.push (newS w)}) ⟨rfl,rfl⟩) fun r u hr=>?_
 cases r with
 | error e=>exact hr
 | ok fl=>
  cases fl with
  | ret v=>
   obtain⟨rfl,rfl⟩:=hr
   have nS:(s.heap.push (newS w)).get? s.heap.objs.size=some (newS w):=Heap.get?_push_size _ rfl
   have hT:Shared.TypeIs {s with heap:=s.heap.push (newS w)} (.ref s.heap.objs.size) "set":=⟨_,nS,rfl⟩
   have hli:=PySem.F.called_set.init.lookup
   have hbi:=PySem.F.called_set.init.bind (.ref s.heap.objs.size)
   have lS:l<s.heap.objs.size:=by obtain⟨ol,q,_⟩:=hl;exact Heap.lt_size q
   have hl1:(s.heap.push (newS w)).IsList l items:=hl.push _
   have zp:(s.heap.push (newS w)).objs.size =s.heap.objs.size+1:=Heap.size_push ..
   repeat (any_goals (first | assumption | wp_step))
   refine codeAny_mono (codeAny_call_builtin (R:=wants (fun r u=>r= .none ∧ ∃h' tk n,u={s with heap:=h',toks:=tk}∧n≤ns.length∧SetL prog w h' s.heap.objs.size (!byText w) (memS ns) n∧
     (∀b o,b<s.heap.objs.size→s.heap.get? b=some o→h'.get? b=some o)∧s.toks≤tk) E) PySem.F.called_set.init.plain PySem.F.entry_set_init (check_set_init_1 hT ?_)) fun r2 u2 hr2=>?_
   ·obtain⟨ol,hol,hcl,nl,hdl⟩:=id hl1
    obtain⟨ocls,odict,odata,oslots⟩:=ol
    simp only at hcl hdl
    subst hcl;subst hdl
    have hsls:=PySem.F.sub_list_set
    have hslf:=PySem.F.sub_list_frozenset
    have hne:(Value.type "list"==Value.type "dict")=false:=by decide
    unfold Builtin.«set.__init__» noKeywords Builtin.Frozenset.updateFrom
    generalize hPI:pyIter=PI
    wp_walk
    subst hPI
    refine wpAny_pyIter_list hl1 (wpAny_bind (wpAny_runValue ?_))
    have ln:items.size=ns.length:=by
     have:=hi.length
     rwa [Array.length_toList]at this
    have hh3:A.in1.in1.in1.handled=none:=by simp[hh]
    have nI:l≠(s.heap.push (newS w)).objs.size :=by rw[zp];exact Nat.ne_of_lt (Nat.lt_succ_of_lt lS)
    have W1:=(Walks.list (prog:=prog) (w:=w) hh3 (s.heap.push (newS w)).objs.size l nI items).toS
    have W2:=walks_weak W1 ln fun i v hv=>ints_get hi (by rw[Array.getElem?_toList];exact hv)
    have nf:s.heap.objs.size∉ [(s.heap.push (newS w)).objs.size,l]:=by
     rw[zp]
     simp only[List.mem_cons,List.not_mem_nil,or_false,not_or]
     exact⟨Nat.ne_of_lt (Nat.lt_succ_self _),Nat.ne_of_gt lS⟩
    have nS2:((s.heap.push (newS w)).push {cls:= .type "list_iterator",data:= .fields #[.ref l,.int 0 0]}).get? s.heap.objs.size=some (newS w):=Heap.get?_push_of_some _ nS
    refine upd_loop W2 s.heap.objs.size nf hb (ns.length-0) 0 _ 0 rfl (Nat.zero_le _) ⟨⟨_,Heap.get?_push_size _ rfl,rfl,rfl⟩,hl1.push _⟩ (Nat.le_refl _) (led:= !byText w) ?_ ?_
    ·exact⟨_, #[],0,_,nS2,⟨rfl,rfl,rfl⟩,rfl,fun e he=>by simp at he,fun k=>by simp,by decide,by rfl,rfl,tbl_fresh 0 0 _⟩
    ·intro u n hm hn hS
     obtain⟨h',g',d',tk',os'⟩:=u
     have eg:g'=s.gens:=hm.gens
     have ed:d'=s.drawn:=hm.drawn
     have eo:os'=s.os:=hm.os
     subst eg;subst ed;subst eo
     refine wpAny_pure (wpAny_pure ⟨rfl,h',tk',n,rfl,hn,hS,fun b o hb e=>?_,hm.toks⟩)
     refine hm.heap b o ?_ (Heap.get?_push_of_some _ (Heap.get?_push_of_some _ e))
     rw[zp]
     simp only[List.mem_cons,List.not_mem_nil,or_false,not_or]
     exact⟨Nat.ne_of_lt hb,Nat.ne_of_lt (Nat.lt_succ_of_lt hb)⟩
   ·cases r2 with
    | error e=>exact hr2
    | ok fl2=>
     cases fl2 with
     | ret r=>
      obtain⟨rfl,h',tk,n,rfl,a0,a1,a2,a3⟩:=hr2
      repeat (any_goals (first | assumption | wp_step))
      exact h h' tk n a0 a1 a2 a3
     | _=>exact hr2.elim
  | _=>exact hr.elim
end
section
variable {prog:Program}{w:World}{A:Around}{E:Value→Shared→Prop}{s:Shared}
theorem ints_of: ∀{vs:List Value},(∀v∈vs,∃k t,v= .int k t)→ ∃ms,IntsAre vs ms∧ ∀x,x∈ms↔ ∃t,Value.int x t∈vs
 | [],_=>⟨[],.nil,fun x=>by simp⟩
 | v::vs,h=>by
  obtain⟨k,t,rfl⟩:=h v (List.mem_cons_self ..)
  obtain⟨ms,i1,i2⟩:=ints_of fun u hu=>h u (List.mem_cons_of_mem _ hu)
  refine⟨k::ms,.cons k t i1,fun x=>?_⟩
  rw[List.mem_cons,i2]
  constructor
  ·rintro(rfl | ⟨u,hu⟩)
   ·exact⟨t,List.mem_cons_self ..⟩
   ·exact⟨u,List.mem_cons_of_mem _ hu⟩
  ·rintro⟨u,hu⟩
   rcases List.mem_cons.mp hu with e | hu
   ·cases e
    exact .inl rfl
   ·exact .inr ⟨u,hu⟩
theorem sorted_set{a:Addr}{ns:List Int}{n:Nat}{Q:Value→Shared→Prop}(hh:A.handled=none)(hS:SetL prog w s.heap a (!byText w) (memS ns) n)(h64:n<64)
  (h: ∀(D:Addr) (h':Heap) (d:Drawn) (tk c:Nat) (out:Array Value) (ms:List Int),s.heap.objs.size≤D→h'.get? D=some (seqObj "list" out c)→IntsAre out.toList ms→ms.Pairwise (· ≤ ·)→(∀x,x∈ms↔x∈ns)→ms.length=n→
   (∀b o,s.heap.get? b=some o→h'.get? b=some o)→s.toks≤tk→Q (.ref D) {s with heap:=h',drawn:=d,toks:=tk}):wpAny (model prog w) A (call (.builtin "sorted") [.ref a]) Q E s:=by
 obtain⟨so,es,ep,t,g1,g2,g3,g4,g5,g6,g7,g8,g9⟩:=hS
 refine Calls.call_function_entry kind_sorted plain_sorted entry_sorted (args_sorted1 _) ?_
 unfold Builtin.«sorted»
 refine wpAny_bind (m:=checkCount "sorted" 1 1 _) (wpAny_pure (wpAny_bind (collect_set hh g1 g2 g3 g7 g9 g6 fun vs h1 d tk k1 k2 zz k3=>?_)))
 have hv: ∀v∈vs,∃k t,v= .int k t:=fun v q=>by
  obtain⟨e,he,rfl⟩:=List.mem_map.mp (k1.mem_iff.mp q)
  obtain⟨⟨k,hk,_⟩,_⟩:=g4 e he
  obtain⟨t,ht⟩:=Value.isInt_shape hk
  exact⟨k,t,ht⟩
 obtain⟨ms0,i1,i2⟩:=ints_of hv
 have ln:vs.length=n:=by
  rw[k1.length_eq]
  unfold setVals
  rw[List.length_map,Array.length_toList]
  exact g8
 have hz:vs.length≤sizeLine:=by
  rw[ln,sizeLine_eq]
  omega
 have mm: ∀x,x∈ms0↔x∈ns:=fun x=>by
  rw[i2]
  have q:=g5 x
  unfold memS at q
  rw[decide_eq_true_eq]at q
  rw[q]
  constructor
  ·rintro⟨t,ht⟩
   obtain⟨e,he,e2⟩:=List.mem_map.mp (k1.mem_iff.mp ht)
   exact⟨e,he,by rw[e2];exact intKind_is _ _ _ _⟩
  ·rintro⟨e,he,hk⟩
   obtain⟨t,ht⟩:=Value.isInt_shape hk
   exact⟨t,k1.mem_iff.mpr (by rw[←ht];exact List.mem_map_of_mem he)⟩
 refine wpAny_bind (wpAny_newList ?_ hz)
 have oL:(h1.push (seqObj "list" vs.toArray 0)).get? h1.objs.size=some (seqObj "list" vs.toArray 0):=Heap.get?_push_size _ rfl
 show wpAny _ _ _ _ _ {s with heap:=h1.push (seqObj "list" vs.toArray 0),drawn:=d,toks:=tk}
 have kk: ∀b o,s.heap.get? b=some o→b<h1.objs.size∧(h1.push (seqObj "list" vs.toArray 0)).get? b=some o:=fun b o e=>⟨Heap.lt_size (k3 b o e),Heap.get?_push_of_some _ (k3 b o e)⟩
 refine wpAny_bind (wpAny_holding (wpAny_call_entry slot_list_sort ⟨_,oL,rfl⟩ entry_list_sort (list_sort_tree oL i1 (by omega) fun out ms a1 a2 a3=>⟨_,rfl,?_⟩) (args_list_sort _)))
 obtain⟨c,oS⟩:=sortedHeap_at (out:=out) oL
 refine wpAny_pure ⟨_,rfl,h h1.objs.size _ d tk c out ms zz oS a1 a3 (fun x=>by rw[a2.mem_iff,mm]) ?_ (fun b o e=>?_) k2⟩
 ·rw[a2.length_eq,←i1.length,ln]
 ·obtain⟨q1,q2⟩:=kk b o e
  rw[sortedHeap_old (Nat.ne_of_lt q1) (by rw[size_push'];exact Nat.lt_succ_of_lt q1)]
  exact q2
end
end My
namespace L2
open PySem PySem.Spec PyProof.Rows
abbrev Key:=Sum Int Str
def keyIs:Key→Value→Bool
 | .inl k,v=>Value.isInt k v
 | .inr x,v=>Value.isStrOf x v
def keyH(w:World):Key→Int
 | .inl k=>hashInt k
 | .inr x=>hashStr w x
theorem keyIs_shape: ∀{k:Key} {v:Value},keyIs k v=true→(∃i t,k=Sum.inl i∧v=Value.int i t)∨(∃x t,k=Sum.inr x∧v=Value.str x t)
 | .inl i,v,h=>by
  obtain⟨t,e⟩:=Value.isInt_shape (k:=i) (v:=v) h
  exact .inl ⟨i,t,rfl,e⟩
 | .inr x,v,h=>by
  obtain⟨t,e⟩:=Value.isStrOf_shape (x:=x) (v:=v) h
  exact .inr ⟨x,t,rfl,e⟩
theorem keyIs_int(i:Int)(t:Tok):keyIs (.inl i) (.int i t)=true:=by simp[keyIs,Value.isInt]
theorem keyIs_str(x:Str)(t:Tok):keyIs (.inr x) (.str x t)=true:=by simp[keyIs,Value.isStrOf]
theorem key_ll(a b:Int):decide ((Sum.inl a:Key)=Sum.inl b)=(a==b):=by
 by_cases e:a=b
 ·subst e;simp
 ·have h: ¬(Sum.inl a:Key)=Sum.inl b:=fun q=>e (Sum.inl.inj q)
  rw[decide_eq_false h]
  exact(beq_eq_false_iff_ne.mpr e).symm
theorem key_rr(a b:Str):decide ((Sum.inr a:Key)=Sum.inr b)=decide (a=b):=by
 by_cases e:a=b
 ·subst e;simp
 ·have h: ¬(Sum.inr a:Key)=Sum.inr b:=fun q=>e (Sum.inr.inj q)
  rw[decide_eq_false h,decide_eq_false e]
theorem key_lr(a:Int)(b:Str):decide ((Sum.inl a:Key)=Sum.inr b)=false:=decide_eq_false (fun q=>nomatch q)
theorem key_rl(a:Str)(b:Int):decide ((Sum.inr a:Key)=Sum.inl b)=false:=decide_eq_false (fun q=>nomatch q)
def mixKind(prog:Program)(w:World):PySem.KeyKind prog w Key where
 is:=keyIs
 hash:=keyH w
 inj:=fun v a b ha hb=>by
  rcases keyIs_shape ha with ⟨i,t,rfl,rfl⟩ | ⟨x,t,rfl,rfl⟩
  ·rcases keyIs_shape hb with ⟨j,u,rfl,e⟩ | ⟨y,u,rfl,e⟩
   ·injection e with e1 _;rw[e1]
   ·exact nomatch e
  ·rcases keyIs_shape hb with ⟨j,u,rfl,e⟩ | ⟨y,u,rfl,e⟩
   ·exact nomatch e
   ·injection e with e1 _;rw[e1]
 byValue:=fun k v h=>by
  rcases keyIs_shape h with ⟨i,t,rfl,rfl⟩ | ⟨x,t,rfl,rfl⟩<;>rfl
 pyHash:=fun hv h=>by
  rcases keyIs_shape hv with ⟨i,t,rfl,rfl⟩ | ⟨x,t,rfl,rfl⟩
  ·exact wpAny_pyHash_int h
  ·exact wpAny_pyHash_str h
 eqBool:=fun hu hv h=>by
  rcases keyIs_shape hu with ⟨i,t,rfl,rfl⟩ | ⟨x,t,rfl,rfl⟩
  ·rcases keyIs_shape hv with ⟨j,u,rfl,rfl⟩ | ⟨y,u,rfl,rfl⟩
   ·rw[key_ll]at h;exact wpAny_eqBool_int h
   ·rw[key_lr]at h;exact SeqAt.EqAt.int_str i t y u _ _ _ _ h
  ·rcases keyIs_shape hv with ⟨j,u,rfl,rfl⟩ | ⟨y,u,rfl,rfl⟩
   ·rw[key_rl]at h;exact SeqAt.EqAt.str_int x t j u _ _ _ _ h
   ·rw[key_rr]at h;exact wpAny_eqBool_str h
 «strs» :=fun k x t v h=>by
  rcases keyIs_shape h with ⟨i,u,rfl,e⟩ | ⟨y,u,rfl,e⟩
  ·exact nomatch e
  ·injection e with e1 _
   subst e1
   cases v<;>rfl
theorem mixKind_int(prog:Program)(w:World)(i:Int)(t:Tok):(mixKind prog w).is (.inl i) (.int i t)=true:=keyIs_int i t
theorem mixKind_str(prog:Program)(w:World)(x:Str)(t:Tok):(mixKind prog w).is (.inr x) (.str x t)=true:=keyIs_str x t
inductive V where
 | non | bl (b:Bool) | int (i:Int) | str (x:Str) | byt (b:Array UInt8) | flt (b:UInt64) | ref (a:Addr) | ty (n:String)
 deriving DecidableEq
def RelV:V→Value→Prop
 | .non,u=>u=Value.none
 | .bl b,u=>u=Value.bool b
 | .int i,u=> ∃t,u=Value.int i t
 | .str x,u=> ∃t,u=Value.str x t
 | .byt b,u=> ∃t,u=Value.bytes b t
 | .flt b,u=> ∃t,u=Value.float b t
 | .ref a,u=>u=Value.ref a
 | .ty n,u=>u=Value.type n
abbrev Vals:List V→List Value→Prop:=Paired RelV
theorem Vals.length{xs:List V}{us:List Value}(r:Vals xs us):xs.length=us.length:=Paired.length r
theorem Vals.get: ∀{xs:List V} {us:List Value} {i:Nat} {x:V},Vals xs us→xs[i]? =some x→ ∃u,us[i]? =some u∧RelV x u
 | _,_,_,_,.nil,e=>by simp at e
 | _,_,0,_,.cons r _,e=>by simp at e;subst e;exact⟨_,rfl,r⟩
 | _,_,i+1,x,.cons _ t,e=>by
  obtain⟨u,h1,h2⟩:=Vals.get (i:=i) (x:=x) t (by simpa using e)
  exact⟨u,by simpa using h1,h2⟩
theorem Vals.append: ∀{xs ys:List V} {us ws:List Value},Vals xs us→Vals ys ws→Vals (xs++ys) (us++ws)
 | _,_,_,_,.nil,s=>s
 | _,_,_,_,.cons r t,s=> .cons r (Vals.append t s)
theorem Vals.take: ∀{xs:List V} {us:List Value} (n:Nat),Vals xs us→Vals (xs.take n) (us.take n)
 | _,_,0,_=> .nil
 | _,_,_+1,.nil => .nil
 | _,_,n+1,.cons r t=> .cons r (Vals.take n t)
theorem Vals.drop: ∀{xs:List V} {us:List Value} (n:Nat),Vals xs us→Vals (xs.drop n) (us.drop n)
 | _,_,0,r=>r
 | _,_,_+1,.nil => .nil
 | _,_,n+1,.cons _ t=>Vals.drop n t
def RelO:Option V→Option Value→Prop
 | some v,some u=>RelV v u
 | none,none=>True
 | _,_=>False
def KV{κ:Type}:List (κ×V)→List (κ×Value)→Prop:=Paired fun(p:κ×V) (q:κ×Value)=>p.1=q.1∧RelV p.2 q.2
def kV:Key→V
 | .inl i=> .int i
 | .inr x=> .str x
inductive HO where
 | lst (xs:List V)
 | tup (xs:List V)
 | dK (kvs:List (Key×V)) | dT (kvs:List (List Key×V))
 | set (S:Int→Bool) (n:Nat)
 | ins (C dx:Addr) (fs:List (Str×V))
 | own (x:Addr)
 | xd (fs:List (Str×V))
 | met (f x:Addr)
 | rng (lo hi:Int)
 | frz (o:Obj) (u:HO)
 | tbl (ps:Array Value)
 | ext (φ:Heap→Prop)
abbrev Hp:=Addr→Option HO
def upd(H:Hp)(a:Addr)(o:HO):Hp:=fun b=>if b=a then some o else H b
theorem upd_same{H:Hp}{a:Addr}{o:HO}:upd H a o a=some o:=by unfold upd;rw[if_pos rfl]
theorem upd_ne{H:Hp}{a b:Addr}{o:HO}(h:b≠a):upd H a o b=H b:=by unfold upd;rw[if_neg h]
theorem upd_upd{H:Hp}{a:Addr}{o u:HO}:upd (upd H a o) a u=upd H a u:=by
 funext b;unfold upd;split<;>rfl
theorem ne_of{H:Hp}{a b:Addr}{o u:HO}(h:H a=some o)(h':H b=some u)(d:o≠u):a≠b:=by
 intro e;subst e;rw[h]at h';exact d (Option.some.inj h')
theorem ne_of_none{H:Hp}{a b:Addr}{o:HO}(h:H a=some o)(h':H b=none):a≠b:=by
 intro e;subst e;rw[h]at h';cases h'
section
variable (P:Program)(w:World)
def ObjOk(H:Hp)(h:Heap)(a:Addr):HO→Prop
 | .lst xs=>xs.length≤sizeLine∧ ∃(its:List Value) (n:Nat),Vals xs its∧h.get? a=some {cls:= .type "list",data:= .seq its.toArray n}
 | .tup xs=>xs.length≤sizeLine∧ ∃its:List Value,Vals xs its∧IsTup h a its.toArray
 | .dK kvs=>kvs.length≤sizeLine∧(a==sysModules)=false∧ ∃vs,KV kvs vs∧h.DictOf (mixKind P w) a vs
 | .dT kvs=>kvs.length≤sizeLine∧(a==sysModules)=false∧ ∃xs:List (List Key×Addr×Value),
   Paired (fun(p:List Key×V) (q:List Key×Addr×Value)=>p.1=q.1∧H q.2.1=some (.tup (p.1.map kV))∧RelV p.2 q.2.2) kvs xs∧
   ∃o es ep,h.get? a=some o∧o.ExactDict∧o.data= .dict es ep∧es.toList=xs.map (entryOfKey (tupleKind (mixKind P w)))∧(xs.map (·.1)).Nodup
 | .set S n=>h.SetOf (intKind P w) a S n
 | .ins C dx fs=>H dx=some (.own a)∧fs.length≤1000∧dx≠a∧h.get? a=some (PySem.W.instObj C dx)∧
   ∃mA,h.Ns1 dx mA∧(∀f,RelO (fs.lookup f) (mA f))∧PySem.Within mA (fs.map (·.1))
 | .own _=> ∃o,h.get? a=some o
 | .xd fs=> ∃mA,h.Ns1 a mA∧ ∀f,RelO (fs.lookup f) (mA f)
 | .rng lo hi=> ∃t u v,h.get? a=some {cls:= .type "range",data:= .fields #[.int lo t,.int hi u,.int 1 v]}
 | .frz o u=>h.get? a=some o∧ObjOk H h a u
 | .tbl ps=>h.get? a=some {cls:= .none,data:= .fields ps}
 | .met f x=>h.get? a=some (PySem.W.methodObj (.ref f) (.ref x))
 | .ext φ=>φ h∧(∃o,h.get? a=some o)∧ ∀h1 h2:Heap,φ h1→(∀o,h1.get? a=some o→h2.get? a=some o)→φ h2
def HOk(H:Hp)(h:Heap):Prop:= ∀a o,H a=some o→ObjOk P w H h a o
end
section
variable {P:Program}{w:World}{H H':Hp}{h h':Heap}{a:Addr}{o:HO}
theorem ObjOk.lt(x:ObjOk P w H h a o):a<h.objs.size:=by
 cases o with
 | lst xs=>obtain⟨_,_,_,_,e⟩:=x;exact Heap.lt_size e
 | tup xs=>obtain⟨_,_,_,p⟩:=x;exact p.lt
 | dK kvs=>obtain⟨_,_,_,_,o,_,_,e,_⟩:=x;exact Heap.lt_size e
 | dT kvs=>obtain⟨_,_,_,_,o,_,_,e,_⟩:=x;exact Heap.lt_size e
 | set S n=>obtain⟨o,_,_,_,e,_⟩:=x;exact Heap.lt_size e
 | ins C dx fs=>obtain⟨_,_,_,e,_⟩:=x;exact Heap.lt_size e
 | own y=>obtain⟨_,e⟩:=x;exact Heap.lt_size e
 | xd fs=>obtain⟨_,⟨_,_,_,e,_⟩,_⟩:=x;exact Heap.lt_size e
 | rng lo hi=>obtain⟨_,_,_,e⟩:=x;exact Heap.lt_size e
 | frz ob u=>obtain⟨e,_⟩:=x;exact Heap.lt_size e
 | tbl ps=>exact Heap.lt_size (show h.get? a=some _ from x)
 | met f y=>exact Heap.lt_size (show h.get? a=some _ from x)
 | ext φ=>obtain⟨_,⟨_,e⟩,_⟩:=x;exact Heap.lt_size e
theorem Paired.mapP{α β:Type}{F G:α→β→Prop}: ∀{l₁:List α} {l₂:List β},Paired F l₁ l₂→(∀a b,F a b→G a b)→Paired G l₁ l₂
 | _,_,.nil,_=> .nil
 | _,_,.cons r t,f=> .cons (f _ _ r) (Paired.mapP t f)
theorem ObjOk.stay(x:ObjOk P w H h a o)(k: ∀b u,(b=a∨H b=some (.own a))→h.get? b=some u→h'.get? b=some u)
  (ho: ∀b,H b=some (.own a)→H' b=some (.own a))(ht: ∀b xs,H b=some (.tup xs)→H' b=some (.tup xs)):ObjOk P w H' h' a o:=by
 induction o with
 | lst xs=>obtain⟨z,its,n,r,e⟩:=x;exact⟨z,its,n,r,k _ _ (.inl rfl) e⟩
 | tup xs=>obtain⟨z,its,r,ob,e,c⟩:=x;exact⟨z,its,r,ob,k _ _ (.inl rfl) e,c⟩
 | dK kvs=>obtain⟨z,y,vs,r,ob,es,ep,e,c⟩:=x;exact⟨z,y,vs,r,ob,es,ep,k _ _ (.inl rfl) e,c⟩
 | dT kvs=>
  obtain⟨z,y,xs,r,ob,es,ep,e,c⟩:=x
  exact⟨z,y,xs,Paired.mapP r fun p q z=>⟨z.1,ht _ _ z.2.1,z.2.2⟩,ob,es,ep,k _ _ (.inl rfl) e,c⟩
 | set S n=>obtain⟨ob,es,ep,t,e,c⟩:=x;exact⟨ob,es,ep,t,k _ _ (.inl rfl) e,c⟩
 | ins C dx fs=>
  obtain⟨d,z,ne,e,mA,⟨od,es,ep,e2,c⟩,r⟩:=x
  exact⟨ho _ d,z,ne,k _ _ (.inl rfl) e,mA,⟨od,es,ep,k _ _ (.inr d) e2,c⟩,r⟩
 | own y=>obtain⟨ob,e⟩:=x;exact⟨ob,k _ _ (.inl rfl) e⟩
 | xd fs=>obtain⟨mA,⟨od,es,ep,e,c⟩,r⟩:=x;exact⟨mA,⟨od,es,ep,k _ _ (.inl rfl) e,c⟩,r⟩
 | rng lo hi=>obtain⟨t,u,v,e⟩:=x;exact⟨t,u,v,k _ _ (.inl rfl) e⟩
 | frz ob u ih=>obtain⟨e,q⟩:=x;exact⟨k _ _ (.inl rfl) e,ih q⟩
 | tbl ps=>
  have e:h.get? a=some {cls:= .none,data:= .fields ps}:=x
  show h'.get? a=some {cls:= .none,data:= .fields ps}
  exact k a _ (.inl rfl) e
 | met f y=>
  have e:h.get? a=some (PySem.W.methodObj (.ref f) (.ref y)):=x
  show h'.get? a=some (PySem.W.methodObj (.ref f) (.ref y))
  exact k a _ (.inl rfl) e
 | ext φ=>obtain⟨p,⟨o,e⟩,st⟩:=x;exact⟨st _ _ p fun o q=>k _ _ (.inl rfl) q,⟨o,k _ _ (.inl rfl) e⟩,st⟩
theorem HOk.lt(x:HOk P w H h)(e:H a=some o):a<h.objs.size:=(x a o e).lt
theorem HOk.fresh(x:HOk P w H h)(e:h.objs.size≤a):H a=none:=by
 cases q:H a with
 | none=>rfl
 | some u=>exact absurd (Nat.lt_of_lt_of_le (x.lt q) e) (Nat.lt_irrefl _)
theorem HOk.kept(x:HOk P w H h)(k: ∀b u,h.get? b=some u→h'.get? b=some u):HOk P w H h':=fun a o e=>
 (x a o e).stay (fun b u _ q=>k b u q) (fun _ q=>q) fun _ _ q=>q
theorem HOk.laid(x:HOk P w H h)(k: ∀b u,h.get? b=some u→h'.get? b=some u)(hp:h.objs.size≤a)(new:ObjOk P w (upd H a o) h' a o):HOk P w (upd H a o) h':=fun b u e=>by
 have hn:=x.fresh hp
 by_cases hb:b=a
 ·subst hb;rw[upd_same]at e;cases e;exact new
 ·rw[upd_ne hb]at e
  exact(x b u e).stay (fun c v _ q=>k c v q) (fun c q=>by rw[upd_ne (ne_of_none q hn)];exact q) fun c xs q=>by rw[upd_ne (ne_of_none q hn)];exact q
end
def Rd(H:Hp)(a:Addr)(u:HO):Prop:=H a=some u∨ ∃o,H a=some (.frz o u)
theorem Rd.ok{P:Program}{w:World}{H:Hp}{h:Heap}{a:Addr}{u:HO}(r:Rd H a u)(x:HOk P w H h):ObjOk P w H h a u:=by
 rcases r with r | ⟨o,r⟩
 ·exact x a u r
 ·obtain⟨_,q⟩:=x a _ r
  exact q
def Mut:Option HO→Prop
 | some (.lst _)=>True
 | some (.dK _)=>True
 | some (.dT _)=>True
 | some (.set _ _)=>True
 | some (.ins _ _ _)=>True
 | some (.ext _)=>True
 | _=>False
section
variable {P:Program}{w:World}{H:Hp}{h h':Heap}{x e:Addr}{o':HO}
theorem HOk.write(ok:HOk P w H h)(mu:Mut (H x))(he:e=x∨H e=some (.own x))(k: ∀b u,b≠e→h.get? b=some u→h'.get? b=some u)(heo: ∃u,h'.get? e=some u)
  (new:ObjOk P w (upd H x o') h' x o'):HOk P w (upd H x o') h':=fun b u q=>by
 have nown: ∀c y,H c=some (.own y)→c≠x:=fun c y r z=>by subst z;rw[r]at mu;exact mu
 have ntup: ∀c xs,H c=some (.tup xs)→c≠x:=fun c xs r z=>by subst z;rw[r]at mu;exact mu
 by_cases hb:b=x
 ·subst hb;rw[upd_same]at q;cases q;exact new
 ·rw[upd_ne hb]at q
  by_cases hbe:b=e
  ·have q':H b=some (.own x):=by
    rcases he with z | z
    ·exact absurd (hbe.trans z) hb
    ·rw[hbe];exact z
   rw[q]at q';cases q'
   obtain⟨v,hv⟩:=heo
   exact⟨v,by rw[hbe];exact hv⟩
  ·refine(ok b u q).stay (fun c v hc r=>k c v ?_ r) (fun c r=>by rw[upd_ne (nown c b r)];exact r) fun c xs r=>by rw[upd_ne (ntup c xs r)];exact r
   rcases hc with rfl | hc
   ·exact hbe
   ·rintro rfl
    rcases he with z | z
    ·exact nown c b hc z
    ·rw[hc]at z;cases z;exact hb rfl
end
structure Un(fs ex:List Addr)(H H':Hp)(h h':Heap):Prop where
 keep: ∀b o,h.get? b=some o→H b=none→b∉fs→b∉ex→h'.get? b=some o
 slot: ∀b o,h.get? b=some o→H b=none→b∈fs→b∉ex→ ∃sl,h'.get? b=some {o with slots:=sl}
 free: ∀b o,h.get? b=some o→H b=none→b∉ex→H' b=none
 there: ∀b o,h.get? b=some o→b∉ex→ ∃o',h'.get? b=some o'
 tups: ∀b xs,H b=some (.tup xs)→H' b=some (.tup xs)
 frzs: ∀b o u,H b=some (.frz o u)→H' b=some (.frz o u)
 tbls: ∀b ps,H b=some (.tbl ps)→ ∃more,H' b=some (.tbl (ps++more))
section
variable {fs fs' ex ex':List Addr}{H H1 H2:Hp}{h h1 h2 h':Heap}{a x e:Addr}{o:HO}
theorem Un.any(u:Un fs ex H H1 h h1){b:Addr}{ob:Obj}(q:h.get? b=some ob)(n:H b=none)(hx:b∉ex): ∃sl,h1.get? b=some {ob with slots:=sl}:=by
 by_cases hb:b∈fs
 ·exact u.slot b ob q n hb hx
 ·exact⟨ob.slots,u.keep b ob q n hb hx⟩
theorem Un.kept(k: ∀b u,h.get? b=some u→h'.get? b=some u):Un fs ex H H h h':=
 ⟨fun b ob q _ _ _=>k b ob q,fun b ob q _ _ _=>⟨ob.slots,k b ob q⟩,fun _ _ _ n _=>n,fun b ob q _=>⟨ob,k b ob q⟩,fun _ _ q=>q,fun _ _ _ q=>q,fun _ ps q=>⟨#[],by rw[q];simp⟩⟩
theorem Un.refl:Un fs ex H H h h:=Un.kept fun _ _ q=>q
theorem Un.laid(k: ∀b u,h.get? b=some u→h'.get? b=some u)(hp:h.objs.size≤a)(hn:H a=none):Un fs ex H (upd H a o) h h' where
 keep:=fun b u q _ _ _=>k b u q
 slot:=fun b u q _ _ _=>⟨u.slots,k b u q⟩
 free:=fun b u q n _=>by rw[upd_ne (Nat.ne_of_lt (Nat.lt_of_lt_of_le (Heap.lt_size q) hp))];exact n
 there:=fun b u q _=>⟨u,k b u q⟩
 tups:=fun b xs q=>by rw[upd_ne (ne_of_none q hn)];exact q
 frzs:=fun b u xs q=>by rw[upd_ne (ne_of_none q hn)];exact q
 tbls:=fun b ps q=>⟨#[],by rw[upd_ne (ne_of_none q hn),q];simp⟩
theorem Un.write(mu:Mut (H x))(he:e=x∨H e=some (.own x))(k: ∀b u,b≠e→h.get? b=some u→h'.get? b=some u)(heo: ∃u,h'.get? e=some u):Un fs ex H (upd H x o) h h':=by
 have hx: ∀b,H b=none→b≠x:=fun b n z=>by subst z;rw[n]at mu;exact mu
 have hb: ∀b,H b=none→b≠e:=fun b n z=>by
  subst z
  rcases he with r | r
  ·exact hx b n r
  ·rw[n]at r;cases r
 have hm: ∀b u,H b=some u→ ¬Mut (some u)→b≠x:=fun b u q nm z=>by subst z;rw[q]at mu;exact nm mu
 refine⟨fun b u q n _ _=>k b u (hb b n) q,fun b u q n _ _=>⟨u.slots,k b u (hb b n) q⟩,fun b u q n _=>by rw[upd_ne (hx b n)];exact n,fun b u q _=>?_,
  fun b xs q=>by rw[upd_ne (hm b _ q fun z=>z)];exact q,fun b u xs q=>by rw[upd_ne (hm b _ q fun z=>z)];exact q,fun b ps q=>⟨#[],by rw[upd_ne (hm b _ q fun z=>z),q];simp⟩⟩
 by_cases hbe:b=e
 ·subst hbe;exact heo
 ·exact⟨u,k b u hbe q⟩
end
def trk(h:Heap)(H:Hp):List Addr:=(List.range h.objs.size).filter fun a=>(H a).isSome
def hidT(h:Heap)(H:Hp):Heap:=PySem.W.hideAll h (trk h H)
theorem hidT_size(h:Heap)(H:Hp):(hidT h H).objs.size =h.objs.size:=PySem.W.hideAll_size _ _
theorem hidT_get{h:Heap}{H:Hp}{b:Addr}{o:Obj}(e:h.get? b=some o)(n:H b=none):(hidT h H).get? b=some o:=
 PySem.W.hideAll_get _ e fun hm=>by
  have q:(H b).isSome =true:=(List.mem_filter.mp hm).2
  rw[n]at q;simp at q
theorem of_hidT{h:Heap}{H:Hp}{b:Addr}{o:Obj}(e:(hidT h H).get? b=some o):h.get? b=some o∧H b=none:=by
 have e':h.get? b=some o:=PySem.W.of_hideAll (trk h H) e
 refine⟨e',?_⟩
 cases q:H b with
 | none=>rfl
 | some x=>
  have hm:b∈trk h H:=List.mem_filter.mpr ⟨List.mem_range.mpr (Heap.lt_size e'),by simp[q]⟩
  have z:(hidT h H).get? b=none:=PySem.W.hideAll_none (trk h H) hm
  rw[z]at e;cases e
structure Mod(K:PySem.W.Frag)(mg:Str→Option Value)(base:Heap):Prop where
 kin:K.In base
 glob:base.Ns mainGlobals mg
 blt: ∃mb,base.Ns builtinsNs mb∧ ∀x:Str,x≠"__name__"→mb x=bootBuiltins x
 nolimit:base.NoLimit
structure Cx where
 prog:Program
 w:World
 K:PySem.W.Frag
 mg:Str→Option Value
 base:Heap
 A:Around
 N:List Str
 s_0:Shared
 H_0:Hp
 env:Env
 outer:List Env
 stack:List Env
 ex:List Addr
 fn:Str→Bool
 calm:Bool
 pn:List (Addr×Obj)
 xe:Value→Shared→Prop
def frs(l:List Env):List Addr:=l.filterMap (·.frame)
abbrev Cx.fs(X:Cx):List Addr:=frs X.outer
def Vis(sc:Scope)(x:Str):Prop:=sc.names.lookup x=some .local ∨sc.names.lookup x=some .cell ∨sc.names.lookup x=some .free
def Loc(sc:Scope)(x:Str):Prop:=sc.names.lookup x=some .local ∨sc.names.lookup x=some .cell
def Look(env:Env)(h:Heap)(m:Str→Option Value)(x:Str)(u:Value):Prop:=
 (env.kindOf x=some .local ∧m x=some u)∨((env.kindOf x=some .cell ∨env.kindOf x=some .free)∧ ∃c,env.cells.lookup x=some c∧h.IsCell c (some u))
structure Cx.Ok(X:Cx):Prop where
 mod:Mod X.K X.mg X.base
 kind:X.env.scope.kind= .function
 glob:X.env.globals=mainGlobals
 blt:X.env.builtins=builtinsNs
 above:X.s_0.heap.objs.size≤X.env.locals
 inj: ∀x y c,X.env.cells.lookup x=some c→X.env.cells.lookup y=some c→x=y
 has: ∀x,(X.env.kindOf x=some .cell ∨X.env.kindOf x=some .free)→ ∃c,X.env.cells.lookup x=some c
 cab: ∀x c,X.fn x=true→X.env.cells.lookup x=some c→X.s_0.heap.objs.size≤c
 hd:X.calm=true→X.A.handled=none
 frames:X.A.frames=some X.stack
 stk:X.stack=X.outer∨(X.stack=X.env::X.outer∧X.env.frame=some X.env.locals)
 exf: ∀b∈X.ex,b≠X.env.locals∧ ∀x c,X.env.cells.lookup x=some c→c≠b
 bs: ∀b o,X.base.get? b=some o→X.s_0.heap.get? b=some o∧X.H_0 b=none
 bsz:X.base.objs.size≤X.s_0.heap.objs.size
 noex: ∀b o,X.base.get? b=some o→b∉X.ex
 exfs: ∀b∈X.ex,b∉X.fs
 funs:X.s_0.heap.FunFrames X.base X.outer
 frf: ∀b∈X.fs,X.H_0 b=none
structure Inv(X:Cx)(pins:List (Addr×Obj))(σ:List (Option V))(H:Hp)(s:Shared):Prop where
 ok:X.Ok
 os:s.os=X.s_0.os
 bare:AllBare s.gens
 base:Un X.fs X.ex X.H_0 H X.s_0.heap s.heap
 loc: ∃m,s.heap.Ns X.env.locals m∧ ∀(i:Nat) (x:Str) (v:V),X.N[i]? =some x→σ[i]? =some (some v)→Vis X.env.scope x→ ∃u,RelV v u∧Look X.env s.heap m x u
 cell: ∀x c,X.env.cells.lookup x=some c→ ∃v,s.heap.IsCell c v
 free:H X.env.locals=none
 freeC: ∀x c,X.env.cells.lookup x=some c→H c=none
 pin: ∀p∈X.pn++pins,s.heap.get? p.1=some p.2∧H p.1=none∧p.1≠X.env.locals∧p.1∉X.fs∧ ∀v,p.2.data≠ .cell v
 hok:HOk X.prog X.w H s.heap
 len:σ.length=X.N.length
section
variable {X:Cx}{pins:List (Addr×Obj)}{σ:List (Option V)}{H H':Hp}{s:Shared}{h':Heap}
theorem Cx.Ok.nofr(ok:X.Ok){b:Addr}{o:Obj}(e:X.base.get? b=some o):b∉X.fs:=fun hb=>by
 have:=(ok.funs.mem hb).1
 rw[e]at this;cases this
theorem Inv.bs(I:Inv X pins σ H s): ∀b o,X.base.get? b=some o→s.heap.get? b=some o∧H b=none:=fun b o e=>
 ⟨I.base.keep b o (I.ok.bs b o e).1 (I.ok.bs b o e).2 (I.ok.nofr e) (I.ok.noex b o e),I.base.free b o (I.ok.bs b o e).1 (I.ok.bs b o e).2 (I.ok.noex b o e)⟩
theorem Inv.bk(I:Inv X pins σ H s): ∀b o,X.base.get? b=some o→s.heap.get? b=some o:=fun b o e=>(I.bs b o e).1
theorem Inv.mod(I:Inv X pins σ H s):Mod X.K X.mg X.base:=I.ok.mod
theorem Inv.kIn(I:Inv X pins σ H s):X.K.In s.heap:=I.ok.mod.kin.keeps I.bk
theorem Inv.lt(I:Inv X pins σ H s):X.env.locals<s.heap.objs.size:=let ⟨_,hn,_⟩:=I.loc;hn.lt
theorem Inv.sz(I:Inv X pins σ H s):X.s_0.heap.objs.size≤s.heap.objs.size:=Nat.le_trans I.ok.above (Nat.le_of_lt I.lt)
theorem Inv.nofs(I:Inv X pins σ H s){a:Addr}(h:s.heap.objs.size≤a):a∉X.fs:=fun hb=>by
 obtain⟨_,o,ho,_⟩:=I.ok.funs.mem hb
 exact absurd (Nat.lt_of_lt_of_le (Heap.lt_size ho) (Nat.le_trans I.sz h)) (Nat.lt_irrefl _)
theorem Inv.cne(I:Inv X pins σ H s): ∀x c,X.env.cells.lookup x=some c→c≠X.env.locals:=fun x c e z=>by
 obtain⟨v,o,ho,hd⟩:=I.cell x c e
 obtain⟨m,⟨o',es,ep,ho',hd',_⟩,_⟩:=I.loc
 rw[z,ho']at ho;cases ho;rw[hd']at hd;cases hd
theorem Inv.funs(I:Inv X pins σ H s):s.heap.FunFrames X.base X.outer:=by
 have all: ∀(l:List Env),(∀b∈frs l,b∈X.fs)→X.s_0.heap.FunFrames X.base l→s.heap.FunFrames X.base l:=by
  intro l
  induction l with
  | nil=>intro _ _;trivial
  | cons env r ih=>
   intro hs hl
   obtain⟨hk,⟨L,o,hf,hn,ho,hd⟩,hr⟩:=hl
   have hL:L∈X.fs:=hs L (by unfold frs;rw[List.filterMap_cons,hf];exact List.mem_cons_self)
   obtain⟨sl,e⟩:=I.base.slot L o ho (I.ok.frf L hL) hL fun z=>I.ok.exfs L z hL
   exact⟨hk,⟨L,_,hf,hn,e,hd⟩,ih (fun b hb=>hs b (by unfold frs;rw[List.filterMap_cons,hf];exact List.mem_cons_of_mem _ hb)) hr⟩
 exact all X.outer (fun _ hb=>hb) I.ok.funs
theorem Inv.stack(I:Inv X pins σ H s):s.heap.FunFrames X.base X.stack:=by
 rcases I.ok.stk with e | ⟨e,hf⟩
 ·rw[e];exact I.funs
 ·rw[e]
  obtain⟨m,hn,_⟩:=I.loc
  refine .cons (by rw[I.ok.kind];decide) hf hn ?_ I.funs
  exact Heap.get?_none_of_le (Nat.le_trans I.ok.bsz I.ok.above)
theorem Inv.stkSub(I:Inv X pins σ H s): ∀b∈frs X.stack,b∈X.env.locals::X.fs:=fun b hb=>by
 rcases I.ok.stk with e | ⟨e,hf⟩
 ·rw[e]at hb;exact List.mem_cons_of_mem _ hb
 ·rw[e]at hb
  unfold frs at hb
  rw[List.filterMap_cons,hf]at hb
  exact hb
theorem Inv.stkFree(I:Inv X pins σ H s): ∀b∈frs X.stack,H b=none:=fun b hb=>by
 rcases List.mem_cons.mp (I.stkSub b hb)with e | hb
 ·rw[e];exact I.free
 ·obtain⟨_,o,ho,_⟩:=I.ok.funs.mem hb
  exact I.base.free b o ho (I.ok.frf b hb) fun z=>I.ok.exfs b z hb
theorem Inv.step{g':Array GenState}{t':Nat}{d':Drawn}{ch:List Addr}(I:Inv X pins σ H s)
  (hch: ∀b∈ch,(b∈X.ex∨X.s_0.heap.objs.size≤b)∧b≠X.env.locals∧(∀x c,X.env.cells.lookup x=some c→c≠b)∧ ∀p∈X.pn++pins,p.1≠b)
  (keep: ∀b o,b≠X.env.locals→b∉X.fs→b∉ch→s.heap.get? b=some o→H b=none→h'.get? b=some o)
  (slot: ∀b o,b≠X.env.locals→b∈X.fs→b∉ch→s.heap.get? b=some o→H b=none→ ∃sl,h'.get? b=some {o with slots:=sl})(free: ∀b o,b∉ch→s.heap.get? b=some o→H b=none→H' b=none)
  (there: ∀b o,b∉ch→s.heap.get? b=some o→ ∃o',h'.get? b=some o')
  (tups: ∀b xs,H b=some (.tup xs)→H' b=some (.tup xs))(frzs: ∀b o u,H b=some (.frz o u)→H' b=some (.frz o u))(tbls: ∀b ps,H b=some (.tbl ps)→ ∃more,H' b=some (.tbl (ps++more)))
  (ns: ∀m,s.heap.Ns X.env.locals m→h'.Ns X.env.locals m)(hok:HOk X.prog X.w H' h')(hg:AllBare g'):
  Inv X pins σ H' {s with heap:=h',gens:=g',drawn:=d',toks:=t'}:=by
 have neL: ∀b o,X.s_0.heap.get? b=some o→b≠X.env.locals:=fun b o e=>Nat.ne_of_lt (Nat.lt_of_lt_of_le (Heap.lt_size e) I.ok.above)
 have neC: ∀b o,X.s_0.heap.get? b=some o→b∉X.ex→b∉ch:=fun b o e hx hb=>by
  rcases (hch b hb).1 with z | z
  ·exact hx z
  ·exact absurd (Nat.lt_of_lt_of_le (Heap.lt_size e) z) (Nat.lt_irrefl _)
 have cellK: ∀x c,X.env.cells.lookup x=some c→ ∀v,s.heap.IsCell c v→h'.IsCell c v:=fun x c e v ⟨o,ho,hd⟩=>by
  have nch:c∉ch:=fun z=>(hch c z).2.2.1 x c e rfl
  by_cases hc:c∈X.fs
  ·obtain⟨sl,q⟩:=slot c o (I.cne x c e) hc nch ho (I.freeC x c e)
   exact⟨_,q,hd⟩
  ·exact⟨o,keep c o (I.cne x c e) hc nch ho (I.freeC x c e),hd⟩
 refine⟨I.ok,I.os,hg,⟨fun b o e n hb hx=>?_,fun b o e n hb hx=>?_,fun b o e n hx=>?_,fun b o e hx=>?_,fun b xs e=>tups b xs (I.base.tups b xs e),fun b o xs e=>frzs b o xs (I.base.frzs b o xs e),fun b ps e=>?_⟩,?_,fun x c e=>?_,?_,fun x c e=>?_,fun p hp=>?_,hok,I.len⟩
 ·exact keep b o (neL b o e) hb (neC b o e hx) (I.base.keep b o e n hb hx) (I.base.free b o e n hx)
 ·obtain⟨sl,e1⟩:=I.base.slot b o e n hb hx
  obtain⟨sl',e2⟩:=slot b _ (neL b o e) hb (neC b o e hx) e1 (I.base.free b o e n hx)
  exact⟨sl',e2⟩
 ·obtain⟨o',e1⟩:=I.base.there b o e hx
  exact free b o' (neC b o e hx) e1 (I.base.free b o e n hx)
 ·obtain⟨o',e1⟩:=I.base.there b o e hx
  exact there b o' (neC b o e hx) e1
 ·obtain⟨m1,e1⟩:=I.base.tbls b ps e
  obtain⟨m2,e2⟩:=tbls b _ e1
  exact⟨m1++m2,by rw[e2,Array.append_assoc]⟩
 ·obtain⟨m,hn,hl⟩:=I.loc
  refine⟨m,ns m hn,fun i x v e1 e2 e3=>?_⟩
  obtain⟨u,r,l⟩:=hl i x v e1 e2 e3
  refine⟨u,r,?_⟩
  rcases l with l | ⟨k,c,e,z⟩
  ·exact .inl l
  ·exact .inr ⟨k,c,e,cellK x c e _ z⟩
 ·obtain⟨v,z⟩:=I.cell x c e
  exact⟨v,cellK x c e v z⟩
 ·obtain⟨m,⟨o,_,_,ho,_⟩,_⟩:=I.loc
  exact free _ o (fun z=>(hch _ z).2.1 rfl) ho I.free
 ·obtain⟨v,o,ho,hd⟩:=I.cell x c e
  exact free c o (fun z=>(hch c z).2.2.1 x c e rfl) ho (I.freeC x c e)
 ·obtain⟨e,n,ne,nf,d⟩:=I.pin p hp
  have nch:p.1∉ch:=fun z=>(hch p.1 z).2.2.2 p hp rfl
  exact⟨keep p.1 p.2 ne nf nch e n,free p.1 p.2 nch e n,ne,nf,d⟩
theorem Inv.un{t':Nat}(I:Inv X pins σ H s)(u:Un X.fs [] H H' s.heap h')(hok:HOk X.prog X.w H' h'):Inv X pins σ H' {s with heap:=h',toks:=t'}:=by
 obtain⟨m,⟨o,es,ep,ho,r⟩,_⟩:=id I.loc
 obtain⟨sl,hL⟩:=u.any ho I.free (by simp)
 exact I.step (g':=s.gens) (d':=s.drawn) (ch:=[]) (fun _ z=>nomatch z) (fun b o _ hb _ e n=>u.keep b o e n hb (by simp)) (fun b o _ hb _ e n=>u.slot b o e n hb (by simp)) (fun b o _ e n=>u.free b o e n (by simp)) (fun b o _ e=>u.there b o e (by simp)) u.tups u.frzs u.tbls (fun m' hm=>by
  obtain⟨o',es',ep',ho',r'⟩:=hm
  rw[ho]at ho';cases ho'
  exact⟨_,es',ep',hL,r'⟩) hok I.bare
theorem Inv.call{g':Array GenState}{t':Nat}{d':Drawn}{ch:List Addr}(I:Inv X pins σ H s)(u:Un (frs X.stack) ch H H' s.heap h')(hok:HOk X.prog X.w H' h')(hg:AllBare g')
  (hch: ∀b∈ch,(b∈X.ex∨X.s_0.heap.objs.size≤b)∧b≠X.env.locals∧(∀x c,X.env.cells.lookup x=some c→c≠b)∧ ∀p∈X.pn++pins,p.1≠b):
  Inv X pins σ H' {s with heap:=h',gens:=g',drawn:=d',toks:=t'}:=by
 obtain⟨m,⟨o,es,ep,ho,r⟩,_⟩:=id I.loc
 obtain⟨sl,hL⟩:=u.any ho I.free fun z=>(hch _ z).2.1 rfl
 exact I.step (ch:=ch) hch (fun b o hL hb hc e n=>u.keep b o e n (fun z=>(List.mem_cons.mp (I.stkSub b z)).elim hL hb) hc) (fun b o _ _ hc e n=>u.any e n hc) (fun b o hc e n=>u.free b o e n hc) (fun b o hc e=>u.there b o e hc) u.tups u.frzs u.tbls (fun m' hm=>by
  obtain⟨o',es',ep',ho',r'⟩:=hm
  rw[ho]at ho';cases ho'
  exact⟨_,es',ep',hL,r'⟩) hok hg
theorem Inv.turned{t':Nat}{it:Addr}(I:Inv X pins σ H s)(k: ∀b o,b≠it→s.heap.get? b=some o→h'.get? b=some o)(hn:H it=none)(hL:it≠X.env.locals)
  (h1:it∈X.ex∨X.s_0.heap.objs.size≤it)(h2: ∀x c,X.env.cells.lookup x=some c→c≠it)(h3: ∀p∈X.pn++pins,p.1≠it):Inv X pins σ H {s with heap:=h',toks:=t'}:=by
 have nit: ∀b u,H b=some u→b≠it:=fun b u e z=>by rw[z,hn]at e;cases e
 refine I.step (g':=s.gens) (d':=s.drawn) (ch:=[it]) (fun b hb=>?_) (fun b o _ _ hc e _=>k b o (fun z=>hc (by simp[z])) e) (fun b o _ _ hc e _=>⟨o.slots,k b o (fun z=>hc (by simp[z])) e⟩) (fun _ _ _ _ n=>n)
  (fun b o hc e=>⟨o,k b o (fun z=>hc (by simp[z])) e⟩) (fun _ _ e=>e) (fun _ _ _ e=>e) (fun b ps e=>⟨#[],by rw[e];simp⟩) (fun m hm=>?_) (fun b u e=>?_) I.bare
 ·have e:b=it:=by simpa using hb
  subst e
  exact⟨h1,hL,h2,h3⟩
 ·obtain⟨o,es,ep,ho,r⟩:=hm
  exact⟨o,es,ep,k _ o (Ne.symm hL) ho,r⟩
 ·refine(I.hok b u e).stay (fun c v hc q=>k c v ?_ q) (fun _ q=>q) fun _ _ q=>q
  rcases hc with z | z
  ·rw[z];exact nit b u e
  ·exact nit c _ z
theorem Inv.tok(I:Inv X pins σ H s)(t:Nat):Inv X pins σ H {s with toks:=t}:=I.un (h':=s.heap) (t':=t) Un.refl I.hok
theorem Inv.kept{t':Nat}(I:Inv X pins σ H s)(k: ∀b u,s.heap.get? b=some u→h'.get? b=some u):Inv X pins σ H {s with heap:=h',toks:=t'}:=I.un (Un.kept k) (I.hok.kept k)
theorem Inv.laid{a:Addr}{o:HO}{t':Nat}(I:Inv X pins σ H s)(k: ∀b u,s.heap.get? b=some u→h'.get? b=some u)(hp:s.heap.objs.size≤a)(new:ObjOk X.prog X.w (upd H a o) h' a o):
  Inv X pins σ (upd H a o) {s with heap:=h',toks:=t'}:=I.un (Un.laid k hp (I.hok.fresh hp)) (I.hok.laid k hp new)
theorem Inv.write{x e:Addr}{o:HO}{t':Nat}(I:Inv X pins σ H s)(mu:Mut (H x))(he:e=x∨H e=some (.own x))(k: ∀b u,b≠e→s.heap.get? b=some u→h'.get? b=some u)(heo: ∃u,h'.get? e=some u)
  (new:ObjOk X.prog X.w (upd H x o) h' x o):Inv X pins σ (upd H x o) {s with heap:=h',toks:=t'}:=I.un (Un.write mu he k heo) (I.hok.write mu he k heo new)
theorem Inv.weak{σ':List (Option V)}(I:Inv X pins σ H s)(hl:σ'.length=σ.length)(w: ∀(i:Nat) v,σ'[i]? =some (some v)→σ[i]? =some (some v)):Inv X pins σ' H s:=
 ⟨I.ok,I.os,I.bare,I.base,let ⟨m,hn,hl'⟩:=I.loc;⟨m,hn,fun i x v e1 e2 e3=>hl' i x v e1 (w i v e2) e3⟩,I.cell,I.free,I.freeC,I.pin,I.hok,hl.trans I.len⟩
theorem Inv.pins_of{pins':List (Addr×Obj)}(I:Inv X pins σ H s)(h: ∀p∈pins',s.heap.get? p.1=some p.2∧H p.1=none∧p.1≠X.env.locals∧p.1∉X.fs∧ ∀v,p.2.data≠ .cell v):Inv X pins' σ H s:=
 ⟨I.ok,I.os,I.bare,I.base,I.loc,I.cell,I.free,I.freeC,fun p hp=>(List.mem_append.mp hp).elim (fun z=>I.pin p (List.mem_append_left _ z)) (h p),I.hok,I.len⟩
theorem nodup_ix{N:List Str}(hN:N.Nodup){i j:Nat}{x:Str}(a:N[i]? =some x)(b:N[j]? =some x):i=j:=by
 obtain⟨h1,e1⟩:=List.getElem?_eq_some_iff.mp a
 obtain⟨h2,e2⟩:=List.getElem?_eq_some_iff.mp b
 exact(List.getElem_inj hN).mp (e1.trans e2.symm)
theorem store_ok2{M:Model}{A:Around}{E:Value→Shared→Prop}{i:Nat}{x:Str}{v:V}{u:Value}{Q:Unit→Shared→Prop}(I:Inv X pins σ H s)(hN:X.N.Nodup)(hi:X.N[i]? =some x)(hx:Loc X.env.scope x)(r:RelV v u)
  (h: ∀s',Inv X pins (σ.set i (some v)) H s'→(∃a,Heap.SameBut a s.heap s'.heap∧(a=X.env.locals∨X.env.cells.lookup x=some a))→Q () s')(hf:X.fn x=true∨X.env.scope.names.lookup x=some .local :=by first | exact .inl rfl | exact .inr rfl | assumption):wpAny M A (storeName X.env x u) Q E s:=by
 obtain⟨m,hn,hl⟩:=id I.loc
 have hcls:(X.env.scope.kind== .class || (X.env.scope.kind== .module &&X.env.locals != X.env.globals))=false:=by rw[I.ok.kind];rfl
 have hiσ:i<σ.length:=by rw[I.len];exact(List.getElem?_eq_some_iff.mp hi).1
 have cne:=I.cne
 have tracked: ∀{a:Addr} {h':Heap},(∃o,s.heap.get? a=some o∧H a=none)→Heap.SameBut a s.heap h'→HOk X.prog X.w H h':=fun{a h'} ha hs b ob e=>by
  obtain⟨_,_,hfree⟩:=ha
  refine(I.hok b ob e).stay (fun c w' hc q=>(hs.2 c ?_).trans q) (fun _ q=>q) fun _ _ q=>q
  rintro rfl
  rcases hc with rfl | hc
  ·rw[hfree]at e;cases e
  ·rw[hfree]at hc;cases hc
 rcases hx with hk | hk
 ·refine wpAny_storeName_local hk hn (fun h' hn' hs=>?_) hcls
  obtain⟨oL,_,_,hoL,_⟩:=id hn
  refine h _ ⟨I.ok,I.os,I.bare,⟨fun b o e n hb hx=>?_,fun b o e n hb hx=>?_,I.base.free,fun b o e hx=>?_,I.base.tups,I.base.frzs,I.base.tbls⟩,⟨_,hn',fun j y v' e1 e2 e3=>?_⟩,fun y c e=>?_,I.free,I.freeC,fun p hp=>?_,tracked ⟨oL,hoL,I.free⟩ hs,by simpa using I.len⟩ ⟨_,hs,.inl rfl⟩
  ·exact(hs.2 b (Nat.ne_of_lt (Nat.lt_of_lt_of_le (Heap.lt_size e) I.ok.above))).trans (I.base.keep b o e n hb hx)
  ·obtain⟨sl,e1⟩:=I.base.slot b o e n hb hx
   exact⟨sl,(hs.2 b (Nat.ne_of_lt (Nat.lt_of_lt_of_le (Heap.lt_size e) I.ok.above))).trans e1⟩
  ·obtain⟨o',e1⟩:=I.base.there b o e hx
   exact⟨o',(hs.2 b (Nat.ne_of_lt (Nat.lt_of_lt_of_le (Heap.lt_size e) I.ok.above))).trans e1⟩
  ·by_cases hj:j=i
   ·subst hj
    rw[hi]at e1;cases e1
    rw[List.getElem?_set_self hiσ]at e2
    cases e2
    exact⟨u,r,.inl ⟨hk,by simp⟩⟩
   ·rw[List.getElem?_set_ne (Ne.symm hj)]at e2
    obtain⟨u',r',q⟩:=hl j y v' e1 e2 e3
    refine⟨u',r',?_⟩
    rcases q with ⟨k,e⟩ | ⟨k,c,e,z⟩
    ·refine .inl ⟨k,?_⟩
     have:y≠x:=fun e=>hj (nodup_ix hN e1 (e▸hi))
     simp[this,e]
    ·exact .inr ⟨k,c,e,z.sameBut hs (cne y c e)⟩
  ·obtain⟨w',z⟩:=I.cell y c e
   exact⟨w',z.sameBut hs (cne y c e)⟩
  ·obtain⟨e,n,ne,nf,d⟩:=I.pin p hp
   exact⟨(hs.2 p.1 ne).trans e,n,ne,nf,d⟩
 ·have hfn:X.fn x=true:=by
   rcases hf with z | z
   ·exact z
   ·rw[z]at hk;cases hk
  obtain⟨c,hc⟩:=I.ok.has x (.inl hk)
  obtain⟨w',z⟩:=I.cell x c hc
  refine wpAny_storeName_cell I.ok.kind hk hc z (fun h' hc' hs=>?_)
  obtain⟨oc,hoc,hocd⟩:=id z
  refine h {s with heap:=h'} ⟨I.ok,I.os,I.bare,⟨fun b o e n hb hx=>?_,fun b o e n hb hx=>?_,I.base.free,fun b o e hx=>?_,I.base.tups,I.base.frzs,I.base.tbls⟩,⟨m,hn.sameBut hs (Ne.symm (cne x c hc)),fun j y v' e1 e2 e3=>?_⟩,fun y c' e=>?_,I.free,I.freeC,fun p hp=>?_,tracked ⟨oc,hoc,I.freeC x c hc⟩ hs,by simpa using I.len⟩ ⟨c,hs,.inr hc⟩
  ·exact(hs.2 b (Nat.ne_of_lt (Nat.lt_of_lt_of_le (Heap.lt_size e) (I.ok.cab x c hfn hc)))).trans (I.base.keep b o e n hb hx)
  ·obtain⟨sl,e1⟩:=I.base.slot b o e n hb hx
   exact⟨sl,(hs.2 b (Nat.ne_of_lt (Nat.lt_of_lt_of_le (Heap.lt_size e) (I.ok.cab x c hfn hc)))).trans e1⟩
  ·obtain⟨o',e1⟩:=I.base.there b o e hx
   exact⟨o',(hs.2 b (Nat.ne_of_lt (Nat.lt_of_lt_of_le (Heap.lt_size e) (I.ok.cab x c hfn hc)))).trans e1⟩
  ·by_cases hj:j=i
   ·subst hj
    rw[hi]at e1;cases e1
    rw[List.getElem?_set_self hiσ]at e2
    cases e2
    exact⟨u,r,.inr ⟨.inl hk,c,hc,hc'⟩⟩
   ·rw[List.getElem?_set_ne (Ne.symm hj)]at e2
    obtain⟨u',r',q⟩:=hl j y v' e1 e2 e3
    refine⟨u',r',?_⟩
    rcases q with q | ⟨k,c',e,z'⟩
    ·exact .inl q
    ·refine .inr ⟨k,c',e,z'.sameBut hs ?_⟩
     rintro rfl
     exact hj (nodup_ix hN e1 (I.ok.inj _ _ _ e hc▸hi))
  ·by_cases hcc:c'=c
   ·subst hcc;exact⟨_,hc'⟩
   ·obtain⟨w2,z2⟩:=I.cell y c' e
    exact⟨w2,z2.sameBut hs hcc⟩
  ·obtain⟨e,n,ne,nf,d⟩:=I.pin p hp
   refine⟨(hs.2 p.1 ?_).trans e,n,ne,nf,d⟩
   intro q
   rw[q,hoc]at e
   have q':oc=p.2:=Option.some.inj e
   exact d w' (by rw[←q'];exact hocd)
theorem store_ok{M:Model}{A:Around}{E:Value→Shared→Prop}{i:Nat}{x:Str}{v:V}{u:Value}{Q:Unit→Shared→Prop}(I:Inv X pins σ H s)(hN:X.N.Nodup)(hi:X.N[i]? =some x)(hx:Loc X.env.scope x)(r:RelV v u)
  (h: ∀s',Inv X pins (σ.set i (some v)) H s'→Q () s')(hf:X.fn x=true∨X.env.scope.names.lookup x=some .local :=by first | exact .inl rfl | exact .inr rfl | assumption):wpAny M A (storeName X.env x u) Q E s:=
 store_ok2 I hN hi hx r (fun s' I' _=>h s' I') hf
theorem Inv.call'{s':Shared}{ch:List Addr}(I:Inv X pins σ H s)(ho:s'.os=s.os)(u:Un (frs X.stack) ch H H' s.heap s'.heap)(hok:HOk X.prog X.w H' s'.heap)(hg:AllBare s'.gens)
  (hch: ∀b∈ch,(b∈X.ex∨X.s_0.heap.objs.size≤b)∧b≠X.env.locals∧(∀x c,X.env.cells.lookup x=some c→c≠b)∧ ∀p∈X.pn++pins,p.1≠b):Inv X pins σ H' s':=by
 obtain⟨h',g',d',t',o'⟩:=s'
 have e:o'=s.os:=ho
 subst e
 exact I.call (g':=g') (t':=t') (d':=d') u hok hg hch
end
abbrev XK:=Value→Option Addr→Hp→Prop
abbrev St:=List (Option V)
abbrev VK:=V→Hp→Prop
abbrev TE:=St→Hp→VK→Prop
abbrev TT:=St→Hp→(Bool→Hp→Prop)→Prop
abbrev TA:=St→Hp→(List V→Hp→Prop)→Prop
structure Ends where
 nx:St→Hp→Prop
 rt:VK
 bk:St→Hp→Prop:=fun _ _=>False
 ct:St→Hp→Prop:=fun _ _=>False
abbrev TS:=Ends→St→Hp→Prop
def EP(X:Cx)(pins:List (Addr×Obj))(σ:St)(Q:VK)(u:Value)(s':Shared):Prop:= ∃v H',Inv X pins σ H' s'∧RelV v u∧Q v H'
def TP(X:Cx)(pins:List (Addr×Obj))(σ:St)(Q:Bool→Hp→Prop)(b:Bool)(s':Shared):Prop:= ∃H',Inv X pins σ H' s'∧Q b H'
def AP(X:Cx)(pins:List (Addr×Obj))(σ:St)(Q:List V→Hp→Prop)(us:List Value)(s':Shared):Prop:= ∃vs H',Inv X pins σ H' s'∧Vals vs us∧Q vs H'
def SP(X:Cx)(pins:List (Addr×Obj))(D:Ends)(f:Flow)(s':Shared):Prop:=
 match f with
 | .next => ∃σ' H',Inv X pins σ' H' s'∧D.nx σ' H'
 | .brk => ∃σ' H',Inv X pins σ' H' s'∧D.bk σ' H'
 | .cont => ∃σ' H',Inv X pins σ' H' s'∧D.ct σ' H'
 | .ret u=> ∃v σ' H',Inv X pins σ' H' s'∧RelV v u∧D.rt v H'
def PE(X:Cx)(e:Expr)(t:TE):Prop:=
 ∀(pins:List (Addr×Obj)) (s:Shared) (σ:St) (H:Hp) (Q:VK),Inv X pins σ H s→t σ H Q→wpAny (model X.prog X.w) X.A (eval e X.env) (EP X pins σ Q) X.xe s
def PT(X:Cx)(e:Expr)(t:TT):Prop:=
 ∀(pins:List (Addr×Obj)) (s:Shared) (σ:St) (H:Hp) (Q:Bool→Hp→Prop),Inv X pins σ H s→t σ H Q→wpAny (model X.prog X.w) X.A (isTrue e X.env (eval e X.env)) (TP X pins σ Q) X.xe s
def PW(X:Cx)(e:Expr)(t:TT):Prop:=
 ∀(whole:Sem Value) (pins:List (Addr×Obj)) (s:Shared) (σ:St) (H:Hp) (Q:Bool→Hp→Prop),Inv X pins σ H s→t σ H Q→wpAny (model X.prog X.w) X.A (isTrue e X.env whole) (TP X pins σ Q) X.xe s
theorem PW.pt{X:Cx}{e:Expr}{t:TT}(h:PW X e t):PT X e t:=h _
def PA(X:Cx)(es:List Expr)(t:TA):Prop:=
 ∀(pos:Pos) (pins:List (Addr×Obj)) (s:Shared) (σ:St) (H:Hp) (Q:List V→Hp→Prop),Inv X pins σ H s→t σ H Q→wpAny (model X.prog X.w) X.A (spliced (backTo pos (starEach es X.env))) (AP X pins σ Q) X.xe s
def PS(X:Cx)(st:Stmt)(t:TS):Prop:=
 ∀(pins:List (Addr×Obj)) (s:Shared) (σ:St) (H:Hp) (D:Ends),Inv X pins σ H s→t D σ H→wpAny (model X.prog X.w) X.A (exec st X.env) (SP X pins D) X.xe s
def PSs(X:Cx)(st:List Stmt)(t:TS):Prop:=
 ∀(pins:List (Addr×Obj)) (s:Shared) (σ:St) (H:Hp) (D:Ends),Inv X pins σ H s→t D σ H→wpAny (model X.prog X.w) X.A (execs st X.env) (SP X pins D) X.xe s
theorem thn{α:Type}{t:Sem α}{Q Q':α→Shared→Prop}{M:Model}{A:Around}{E:Value→Shared→Prop}{s:Shared}(h:wpAny M A t Q E s)(hQ: ∀a s,Q a s→Q' a s):wpAny M A t Q' E s:=wpAny_mono h hQ fun _ _ x=>x
section
variable {X:Cx}
inductive VarQ(i:Nat)(σ:St)(H:Hp)(Q:VK):Prop
 | mk (v:V) (_:σ[i]? =some (some v)) (_:Q v H)
def tVar(i:Nat):TE:=VarQ i
def tC(v:V):TE:=fun _ H Q=>Q v H
theorem pe_var{i:Nat}{x:Str}{pos:Pos}(hN:X.N[i]? =some x)(hv:Vis X.env.scope x)(hd:(x==("__debug__":Str))=false:=by decide)(hcd:(x==("__classdict__":Str))=false:=by decide):PE X (.Name x pos) (tVar i):=by
 intro pins s σ H Q I h
 obtain⟨v,e,h⟩:=h
 obtain⟨m,hn,hl⟩:=I.loc
 obtain⟨u,r,l⟩:=hl i x v hN e hv
 have fin:EP X pins σ Q u s:=⟨v,H,I,r,h⟩
 rcases l with ⟨hk,hm⟩ | ⟨hk,c,hc,hcell⟩
 ·exact wpAny_Name (wpAny_loadName_local I.ok.kind hk hn hm fin) hd
 ·rcases hk with hk | hk
  ·exact wpAny_Name (wpAny_loadName_cell I.ok.kind hk hc hcell fin) hd
  ·exact wpAny_Name (wpAny_loadName_free I.ok.kind hk hc hcell fin hcd) hd
theorem pe_int{i j pos}:PE X (.Constant (.int i) j pos) (tC (.int i)):=fun _ _ _ H _ I h=>wpAny_Constant_int ⟨.int i,H,I.tok _,⟨_,rfl⟩,h⟩
theorem pe_bl{b j pos}:PE X (.Constant (.bool b) j pos) (tC (.bl b)):=fun _ _ _ H _ I h=>Constant_bool ⟨.bl b,H,I,rfl,h⟩
theorem pe_non{j pos}:PE X (.Constant .none j pos) (tC .non):=fun _ _ _ H _ I h=>Constant_none ⟨.non,H,I,rfl,h⟩
def Gl(X:Cx)(x:Str):Prop:=X.env.kindOf x=some .globalImplicit
theorem ld_glob{E:Value→Shared→Prop}{pins:List (Addr×Obj)}{s:Shared}{σ:St}{H:Hp}{x:Str}{u:Value}{pos:Pos}{Q:Value→Shared→Prop}(I:Inv X pins σ H s)(hg:Gl X x)(hm:X.mg x=some u)(h:Q u s)
  (hd:(x==("__debug__":Str))=false:=by decide):wpAny (model X.prog X.w) X.A (eval (.Name x pos) X.env) Q E s:=
 Calls.Name_function_global I.ok.kind hg (Calls.loadGlobal_global (by rw[I.ok.glob];exact I.mod.glob.keeps I.bk) hm h) hd
theorem ld_blt{E:Value→Shared→Prop}{pins:List (Addr×Obj)}{s:Shared}{σ:St}{H:Hp}{x:Str}{u:Value}{pos:Pos}{Q:Value→Shared→Prop}(I:Inv X pins σ H s)(hg:Gl X x)(hm:X.mg x=none)(hv:bootBuiltins x=some u)(h:Q u s)
  (hn:x≠"__name__":=by decide)(hd:(x==("__debug__":Str))=false:=by decide):wpAny (model X.prog X.w) X.A (eval (.Name x pos) X.env) Q E s:=by
 obtain⟨mb,h1,h2⟩:=I.mod.blt
 exact Calls.Name_function_global I.ok.kind hg (Calls.loadGlobal_builtin (by rw[I.ok.glob];exact I.mod.glob.keeps I.bk) hm (by rw[I.ok.blt];exact h1.keeps I.bk) ((h2 x hn).trans hv) h) hd
theorem pe_glob{x:Str}{v:V}{u:Value}{pos:Pos}(hg:Gl X x)(hm:X.mg x=some u)(r:RelV v u)(hd:(x==("__debug__":Str))=false:=by decide):PE X (.Name x pos) (tC v):=
 fun _ _ _ H _ I h=>ld_glob I hg hm ⟨v,H,I,r,h⟩ hd
variable {a b:Expr}{ta tb:TE}{pos:Pos}
def tB(t:TE):TT:=fun σ H Q=>t σ H fun x H1=> ∃c,x= .bl c∧Q c H1
theorem pt_val{e:Expr}{t:TE}(h:PE X e t)(he: ∀whole,isTrue e X.env whole=(do let v ←whole;standAt e.pos;holding [v] (truthy v)):=by intro _;rfl):PT X e (tB t):=by
 intro pins s σ H Q I hw
 refine isTrue_plain (thn (h pins s σ H _ I hw) fun v s1 ⟨x,H1,I1,r1,q1⟩=>?_) (he _)
 obtain⟨d,rfl,q⟩:=q1
 cases r1
 exact wpAny_truthy_bool ⟨H1,I1,q⟩
variable {tA tB':TT}{rest:List Expr}
def tAnd(t u:TT):TT:=fun σ H Q=>t σ H fun c H1=>if c=true then u σ H1 Q else Q false H1
def tOr(t u:TT):TT:=fun σ H Q=>t σ H fun c H1=>if c=true then Q true H1 else u σ H1 Q
def tNot(t:TT):TT:=fun σ H Q=>t σ H fun c H1=>Q (!c) H1
theorem pw_and1(ha:PT X a tA):PW X (.BoolOp .And [a] pos) tA:=by
 intro wh pins s σ H Q I h
 refine isTrue_and (thn (ha pins s σ H Q I h) fun c s1 e=>?_)
 cases c with
 | true=>exact isTrue_and_nil e
 | false=>exact e
theorem pw_or1(ha:PT X a tA):PW X (.BoolOp .Or [a] pos) tA:=by
 intro wh pins s σ H Q I h
 refine isTrue_or (thn (ha pins s σ H Q I h) fun c s1 e=>?_)
 cases c with
 | false=>exact isTrue_or_nil e
 | true=>exact e
theorem pw_and(ha:PT X a tA)(hb:PW X (.BoolOp .And (b::rest) pos) tB'):PW X (.BoolOp .And (a::b::rest) pos) (tAnd tA tB'):=by
 intro wh pins s σ H Q I h
 refine isTrue_and (thn (ha pins s σ H _ I h) fun c s1 ⟨H1,I1,q1⟩=>?_)
 cases c with
 | true=>exact hb wh pins s1 σ H1 Q I1 q1
 | false=>exact⟨H1,I1,q1⟩
theorem pw_or(ha:PT X a tA)(hb:PW X (.BoolOp .Or (b::rest) pos) tB'):PW X (.BoolOp .Or (a::b::rest) pos) (tOr tA tB'):=by
 intro wh pins s σ H Q I h
 refine isTrue_or (thn (ha pins s σ H _ I h) fun c s1 ⟨H1,I1,q1⟩=>?_)
 cases c with
 | true=>exact⟨H1,I1,q1⟩
 | false=>exact hb wh pins s1 σ H1 Q I1 q1
theorem pt_not(ha:PT X a tA):PT X (.UnaryOp .Not a pos) (tNot tA):=by
 intro pins s σ H Q I h
 exact isTrue_not (ha pins s σ H (fun c H1=>Q (!c) H1) I h)
def tOrV(ta tb:TE):TE:=fun σ H Q=>ta σ H fun x H1=> ∃c,x= .bl c∧if c=true then Q (.bl true) H1 else tb σ H1 Q
theorem pe_one{op}{t:TE}(h:PE X a t):PE X (.BoolOp op [a] pos) t:=fun pins s σ H Q I hw=>BoolOp_one (h pins s σ H Q I hw)
theorem pe_or(ha:PE X a ta)(hb:PE X (.BoolOp .Or (b::rest) pos) tb):PE X (.BoolOp .Or (a::b::rest) pos) (tOrV ta tb):=by
 intro pins s σ H Q I h
 refine BoolOp_or (thn (ha pins s σ H _ I h) fun v s1 ⟨x,H1,I1,r1,q1⟩=>?_)
 obtain⟨c,rfl,q1⟩:=q1
 cases r1
 refine wpAny_truthy_bool ?_
 cases c with
 | false=>exact hb pins s1 σ H1 Q I1 q1
 | true=>exact⟨.bl true,H1,I1,rfl,q1⟩
def tIf(t:TT)(ta tb:TE):TE:=fun σ H Q=>t σ H fun c H1=>if c=true then ta σ H1 Q else tb σ H1 Q
theorem pe_ifExp{c:Expr}(hc:PT X c tA)(ha:PE X a ta)(hb:PE X b tb):PE X (.IfExp c a b pos) (tIf tA ta tb):=by
 intro pins s σ H Q I h
 refine wpAny_IfExp (thn (hc pins s σ H _ I h) fun d s1 ⟨H1,I1,q1⟩=>?_)
 cases d with
 | true=>exact ha pins s1 σ H1 Q I1 q1
 | false=>exact hb pins s1 σ H1 Q I1 q1
end
def SqL(K:PySem.W.Frag)(H:Hp)(a:Addr)(xs:List V):Prop:=
 Rd H a (.lst xs)∨
  ∃(o:Obj) (its:Array Value) (n:Nat),K.lookup a=some o∧o.cls= .type "list"∧o.dict=none∧o.data= .seq its n∧its.size≤sizeLine∧Vals xs its.toList
def SqT(K:PySem.W.Frag)(H:Hp)(a:Addr)(xs:List V):Prop:=
 Rd H a (.tup xs)∨
  ∃(o:Obj) (its:Array Value) (n:Nat),K.lookup a=some o∧o.cls= .type "tuple"∧o.data= .seq its n∧its.size≤sizeLine∧Vals xs its.toList
def absV:Value→Option V
 | .none =>some .non
 | .bool b=>some (.bl b)
 | .int i _=>some (.int i)
 | .str x _=>some (.str x)
 | .bytes b _=>some (.byt b)
 | .float b _=>some (.flt b)
 | .ref a=>some (.ref a)
 | .type n=>some (.ty n)
 | _=>none
theorem RelV.abs{x:V}{u:Value}(r:RelV x u):absV u=some x:=by
 cases x with
 | non=>cases r;rfl
 | bl _=>cases r;rfl
 | int _=>obtain⟨t,rfl⟩:=r;rfl
 | str _=>obtain⟨t,rfl⟩:=r;rfl
 | byt _=>obtain⟨t,rfl⟩:=r;rfl
 | flt _=>obtain⟨t,rfl⟩:=r;rfl
 | ref _=>cases r;rfl
 | ty _=>cases r;rfl
theorem RelV.inj{x y:V}{u:Value}(r:RelV x u)(q:RelV y u):x=y:=Option.some.inj (r.abs.symm.trans q.abs)
theorem Vals.inj: ∀{xs ys:List V} {us:List Value},Vals xs us→Vals ys us→xs=ys
 | _,_,_,.nil,.nil =>rfl
 | _,_,_,.cons r t,.cons r' t'=>by rw[r.inj r',Vals.inj t t']
section
variable {X:Cx}{pins:List (Addr×Obj)}{σ:St}{H:Hp}{s:Shared}{a:Addr}{xs ys:List V}
theorem SqL.of{K:PySem.W.Frag}(h:H a=some (.lst xs)):SqL K H a xs:= .inl (.inl h)
theorem SqT.of{K:PySem.W.Frag}(h:H a=some (.tup xs)):SqT K H a xs:= .inl (.inl h)
theorem Inv.list(I:Inv X pins σ H s)(h:SqL X.K H a xs): ∃its:List Value,Vals xs its∧PlainL s.heap a its.toArray∧xs.length≤sizeLine:=by
 rcases h with h | ⟨o,its,n,hk,hc,hd,hs,hz,r⟩
 ·obtain⟨z,its,n,r,e⟩:=h.ok I.hok
  exact⟨its,r,⟨_,n,e,rfl,rfl,rfl⟩,z⟩
 ·refine⟨its.toList,r,⟨o,n,I.kIn a o hk,hc,hd,by simpa using hs⟩,?_⟩
  have e:=r.length
  simp only[Array.length_toList]at e
  omega
theorem Inv.tuple(I:Inv X pins σ H s)(h:SqT X.K H a xs): ∃its:List Value,Vals xs its∧IsTup s.heap a its.toArray∧xs.length≤sizeLine:=by
 rcases h with h | ⟨o,its,n,hk,hc,hs,hz,r⟩
 ·obtain⟨z,its,r,p⟩:=h.ok I.hok
  exact⟨its,r,p,z⟩
 ·refine⟨its.toList,r,⟨o,I.kIn a o hk,hc,n,by simpa using hs⟩,?_⟩
  have e:=r.length
  simp only[Array.length_toList]at e
  omega
theorem Inv.list_inj(I:Inv X pins σ H s)(h:SqL X.K H a xs)(h':SqL X.K H a ys):xs=ys:=by
 obtain⟨its,r,⟨o,n,e,_,_,d⟩,_⟩:=I.list h
 obtain⟨its',r',⟨o',n',e',_,_,d'⟩,_⟩:=I.list h'
 rw[e]at e';cases e'
 rw[d]at d'
 injection d' with d1 _
 have:its=its':=by simpa using congrArg Array.toList d1
 subst this
 exact r.inj r'
theorem Inv.tuple_inj(I:Inv X pins σ H s)(h:SqT X.K H a xs)(h':SqT X.K H a ys):xs=ys:=by
 obtain⟨its,r,⟨o,e,_,n,d⟩,_⟩:=I.tuple h
 obtain⟨its',r',⟨o',e',_,n',d'⟩,_⟩:=I.tuple h'
 rw[e]at e';cases e'
 rw[d]at d'
 injection d' with d1 _
 have:its=its':=by simpa using congrArg Array.toList d1
 subst this
 exact r.inj r'
end
abbrev Cx.wish(X:Cx)(E:Value→Shared→Prop):Cx:={X with xe:=E}
abbrev Cx.nox(X:Cx):Cx:=X.wish fun _ _=>False
theorem Cx.Ok.wish{X:Cx}(ok:X.Ok)(E:Value→Shared→Prop):(X.wish E).Ok :=
 ⟨ok.mod,ok.kind,ok.glob,ok.blt,ok.above,ok.inj,ok.has,ok.cab,ok.hd,ok.frames,ok.stk,ok.exf,ok.bs,ok.bsz,ok.noex,ok.exfs,ok.funs,ok.frf⟩
theorem Cx.Ok.unwish{X:Cx}{E:Value→Shared→Prop}(ok:(X.wish E).Ok):X.Ok:=
 ⟨ok.mod,ok.kind,ok.glob,ok.blt,ok.above,ok.inj,ok.has,ok.cab,ok.hd,ok.frames,ok.stk,ok.exf,ok.bs,ok.bsz,ok.noex,ok.exfs,ok.funs,ok.frf⟩
section
variable {X:Cx}{pins:List (Addr×Obj)}{σ:St}{H:Hp}{s:Shared}{E:Value→Shared→Prop}
theorem Inv.wish(I:Inv X pins σ H s)(E:Value→Shared→Prop):Inv (X.wish E) pins σ H s:=⟨I.ok.wish E,I.os,I.bare,I.base,I.loc,I.cell,I.free,I.freeC,I.pin,I.hok,I.len⟩
theorem Inv.unwish(I:Inv (X.wish E) pins σ H s):Inv X pins σ H s:=⟨I.ok.unwish,I.os,I.bare,I.base,I.loc,I.cell,I.free,I.freeC,I.pin,I.hok,I.len⟩
theorem SP.unwish{D:Ends}{f:Flow}{s':Shared}(h:SP (X.wish E) pins D f s'):SP X pins D f s':=by
 cases f with
 | next=>obtain⟨σ',H',I,q⟩:=h;exact⟨σ',H',I.unwish,q⟩
 | brk=>obtain⟨σ',H',I,q⟩:=h;exact⟨σ',H',I.unwish,q⟩
 | cont=>obtain⟨σ',H',I,q⟩:=h;exact⟨σ',H',I.unwish,q⟩
 | ret u=>obtain⟨v,σ',H',I,r,q⟩:=h;exact⟨v,σ',H',I.unwish,r,q⟩
theorem PSs.nox{st:List Stmt}{t:TS}(h:PSs X.nox st t):PSs X st t:=fun pins s σ H D I hw=>
 wpAny_mono (h pins s σ H D (I.wish _) hw) (fun _ _ q=>q.unwish) fun _ _ z=>False.elim z
end
section
variable {X:Cx}{st:Stmt}{rest:List Stmt}{t u:TS}{e:Expr}{te:TE}{pos:Pos}
def tNext:TS:=fun D σ H=>D.nx σ H
def tSeq(t u:TS):TS:=fun D σ H=>t {D with nx:=u D} σ H
theorem pss_nil:PSs X [] tNext:=fun _ _ σ H _ I h=>wpAny_execs_nil ⟨σ,H,I,h⟩
theorem pss_cons(h1:PS X st t)(h2:PSs X rest u):PSs X (st::rest) (tSeq t u):=by
 intro pins s σ H D I h
 refine wpAny_execs_cons (thn (h1 pins s σ H {D with nx:=u D} I h) fun f s1 q=>?_)
 cases f with
 | next=>
  obtain⟨σ',H',I',q⟩:=q
  exact h2 pins s1 σ' H' D I' q
 | ret v=>exact q
 | brk=>exact q
 | cont=>exact q
theorem pss_one(h1:PS X st t):PSs X [st] t:=by
 intro pins s σ H D I h
 refine wpAny_execs_cons (thn (h1 pins s σ H D I h) fun f s1 q=>?_)
 cases f with
 | next=>exact wpAny_execs_nil q
 | ret v=>exact q
 | brk=>exact q
 | cont=>exact q
theorem Inv.quiet{pins:List (Addr×Obj)}{σ:St}{H:Hp}{s:Shared}(I:Inv X pins σ H s):interactive X.env=false:=by simp[interactive,I.ok.kind]
def tDrop(te:TE):TS:=fun D σ H=>te σ H fun _ H1=>D.nx σ H1
theorem ps_expr(he:PE X e te)(hs:swapsWith e none pos.line X.env=pure false:=by rfl):PS X (.Expr e pos) (tDrop te):=by
 intro pins s σ H D I h
 exact wpAny_Expr_any (thn (he pins s σ H _ I h) fun v s1 ⟨x,H1,I1,r1,q1⟩=>⟨σ,H1,I1,q1⟩) I.quiet hs
def tRet(te:TE):TS:=fun D σ H=>te σ H D.rt
theorem ps_ret(he:PE X e te):PS X (.Return (some e) pos) (tRet te):=by
 intro pins s σ H D I h
 exact wpAny_Return_some (thn (he pins s σ H _ I h) fun v s1 ⟨x,H1,I1,r1,q1⟩=>⟨x,σ,H1,I1,r1,q1⟩)
def tIfS(c:TT)(t u:TS):TS:=fun D σ H=>c σ H fun b H1=>if b=true then t D σ H1 else u D σ H1
theorem ps_if{c:Expr}{a b:List Stmt}{tc:TT}(hc:PT X c tc)(ha:PSs X a t)(hb:PSs X b u):PS X (.If c a b pos) (tIfS tc t u):=by
 intro pins s σ H D I h
 refine wpAny_If (thn (hc pins s σ H _ I h) fun d s1 ⟨H1,I1,q1⟩=>?_)
 cases d with
 | true=>exact ha pins s1 σ H1 D I1 q1
 | false=>exact hb pins s1 σ H1 D I1 q1
def tNever:TS:=fun _ _ _=>False
theorem pss_never{sts:List Stmt}:PSs X sts tNever:=fun _ _ _ _ _ _ h=>h.elim
end
abbrev TG:=V→St→Hp→(St→Hp→Prop)→Prop
abbrev TGs:=List V→St→Hp→(St→Hp→Prop)→Prop
def PG(X:Cx)(target:Expr)(t:TG):Prop:=
 ∀(pins:List (Addr×Obj)) (s:Shared) (σ:St) (H:Hp) (v:V) (u:Value) (Q:St→Hp→Prop),Inv X pins σ H s→RelV v u→t v σ H Q→
  wpAny (model X.prog X.w) X.A (assign target X.env u) (fun _ s'=> ∃σ' H',Inv X pins σ' H' s'∧Q σ' H') X.xe s
def PGs(X:Cx)(ts:List Expr)(t:TGs):Prop:=
 ∀(pins:List (Addr×Obj)) (s:Shared) (σ:St) (H:Hp) (vs:List V) (us:List Value) (Q:St→Hp→Prop),Inv X pins σ H s→Vals vs us→t vs σ H Q→
  wpAny (model X.prog X.w) X.A (assignInOrder ((assignEach ts X.env).map (·.2)) us) (fun _ s'=> ∃σ' H',Inv X pins σ' H' s'∧Q σ' H') X.xe s
abbrev TIp:=V→V→Hp→VK→Prop
def PIp(X:Cx)(op:Operator)(t:TIp):Prop:=
 ∀(pins:List (Addr×Obj)) (s:Shared) (σ:St) (H:Hp) (x y:V) (v u:Value) (Q:VK),Inv X pins σ H s→RelV x v→RelV y u→t x y H Q→
  wpAny (model X.prog X.w) X.A (inplaceOp op v u) (EP X pins σ Q) X.xe s
section
variable {X:Cx}{pos:Pos}
def gName(i:Nat):TG:=fun v σ H Q=>Q (σ.set i (some v)) H
theorem pg_name{i:Nat}{x:Str}(hN:X.N.Nodup)(hi:X.N[i]? =some x)(hx:Loc X.env.scope x)(hf:X.fn x=true∨X.env.scope.names.lookup x=some .local :=by first | exact .inl rfl | exact .inr rfl | assumption):PG X (.Name x pos) (gName i):=by
 intro pins s σ H v u Q I r h
 exact wpAny_assign_Name (store_ok I hN hi hx r (fun s' I'=>⟨_,H,I',h⟩) hf)
def gNil:TGs:=fun vs σ H Q=>vs=[]∧Q σ H
def gCons(t:TG)(u:TGs):TGs:=fun vs σ H Q=> ∃v r,vs=v::r∧t v σ H fun σ' H'=>u r σ' H' Q
theorem pgs_nil:PGs X [] gNil:=by
 intro pins s σ H vs us Q I r h
 obtain⟨e,h⟩:=h
 subst e
 cases r
 exact assignInOrder_nil ⟨σ,H,I,h⟩
theorem pgs_cons{e:Expr}{es:List Expr}{t:TG}{u:TGs}(h1:PG X e t)(h2:PGs X es u)
  (hs:(assignEach (e::es) X.env).map (·.2)=assign e X.env::(assignEach es X.env).map (·.2):=by rfl):PGs X (e::es) (gCons t u):=by
 intro pins s σ H vs us Q I r h
 obtain⟨v,vr,e1,h⟩:=h
 subst e1
 cases r with
 | cons r rr=>
  rw[hs]
  refine assignInOrder_cons (thn (h1 pins s σ H _ _ _ I r h) fun _ s1 ⟨σ1,H1,I1,q1⟩=>?_)
  exact h2 pins s1 σ1 H1 _ _ Q I1 rr q1
def gTup(K:PySem.W.Frag)(n:Nat)(t:TGs):TG:=fun v σ H Q=> ∃a xs,v= .ref a∧SqT K H a xs∧xs.length=n∧t xs σ H Q
theorem pg_tup{es:List Expr}{k:Nat}{t:TGs}{n:Nat}(hc:X.calm=true)(h:PGs X es t)
  (hn:(assignEach es X.env).length =n:=by rfl)(hst:(assignEach es X.env).findIdx? (·.1)=none:=by rfl):PG X (.Tuple es k pos) (gTup X.K n t):=by
 intro pins s σ H v u Q I r hw
 obtain⟨a,xs,e1,hq,hl,hw⟩:=hw
 subst e1
 cases r
 obtain⟨its,rv,ht,hz⟩:=I.tuple hq
 refine assign_Tuple_tuple (I.ok.hd hc) ht (by simp[hn,←hl,rv.length]) hst fun h' hx=>?_
 have I1:Inv X pins σ H {s with heap:=h'}:=I.kept (t':=s.toks) fun b o e=>hx b o (Nat.ne_of_lt (Heap.lt_size e)) e
 exact h pins _ σ H xs _ Q I1 (by simpa using rv) hw
def tAsg(te:TE)(g:TG):TS:=fun D σ H=>te σ H fun x H1=>g x σ H1 D.nx
theorem ps_set{i:Nat}{x:Str}{e:Expr}{te:TE}{pos':Pos}(hN:X.N.Nodup)(hi:X.N[i]? =some x)(hx:Loc X.env.scope x)(he:PE X e te)(hs:swapsWith e (some (.Name x pos')) pos.line X.env=pure false:=by rfl)(hf:X.fn x=true∨X.env.scope.names.lookup x=some .local :=by first | exact .inl rfl | exact .inr rfl | assumption):
  PS X (.Assign [.Name x pos'] e pos) (tAsg te (gName i)):=by
 intro pins s σ H D I h
 refine wpAny_Assign_Name (thn (he pins s σ H _ I h) fun v s1 ⟨y,H1,I1,r1,q1⟩=>?_) hs
 exact store_ok I1 hN hi hx r1 (fun s2 I2=>⟨_,H1,I2,q1⟩) hf
def tAug(i:Nat)(te:TE)(ti:TIp):TS:=fun D σ H=> ∃x,σ[i]? =some (some x)∧te σ H fun y H1=>ti x y H1 fun z H2=>D.nx (σ.set i (some z)) H2
theorem ps_aug{i:Nat}{x:Str}{e:Expr}{te:TE}{op:Operator}{ti:TIp}{pos':Pos}(hN:X.N.Nodup)(hi:X.N[i]? =some x)(hx:Loc X.env.scope x)(he:PE X e te)(ho:PIp X op ti)(hf:X.fn x=true∨X.env.scope.names.lookup x=some .local :=by first | exact .inl rfl | exact .inr rfl | assumption):
  PS X (.AugAssign (.Name x pos') op e pos) (tAug i te ti):=by
 intro pins s σ H D I h
 obtain⟨v,e1,h⟩:=h
 obtain⟨m,hn,hl⟩:=I.loc
 have vis:Vis X.env.scope x:=by rcases hx with k | k;exact .inl k;exact .inr (.inl k)
 obtain⟨u,r,l⟩:=hl i x v hi e1 vis
 refine wpAny_AugAssign_Name ?_
 have go:wpAny (model X.prog X.w) X.A (eval e X.env) (fun w s₂=>wpAny (model X.prog X.w) X.A (inplaceOp op u w) (fun r s₃=>wpAny (model X.prog X.w) X.A (storeName X.env x r) (fun _=>SP X pins D .next) X.xe s₃) X.xe s₂) X.xe s:=by
  refine thn (he pins s σ H _ I h) fun w s1 ⟨y,H1,I1,r1,q1⟩=>?_
  refine thn (ho pins s1 σ H1 v y u w _ I1 r r1 q1) fun z s2 ⟨zv,H2,I2,r2,q2⟩=>?_
  exact store_ok I2 hN hi hx r2 (fun s3 I3=>⟨_,H2,I3,q2⟩) hf
 rcases l with ⟨hk,hm⟩ | ⟨hk,c,hc,hcell⟩
 ·exact wpAny_loadName_local I.ok.kind hk hn hm go
 ·rcases hk with hk | hk
  ·exact wpAny_loadName_cell I.ok.kind hk hc hcell go
  ·rcases hx with k | k
   ·have:X.env.scope.names.lookup x=some .free :=hk
    rw[k]at this;cases this
   ·have:X.env.scope.names.lookup x=some .free :=hk
    rw[k]at this;cases this
def ipI(f:Int→Int→Int):TIp:=fun x y H Q=> ∃i j,x= .int i∧y= .int j∧Q (.int (f i j)) H
theorem ip_add:PIp X .Add (ipI fun i j=>i+j):=by
 intro pins s σ H x y v u Q I r1 r2 h
 obtain⟨i,j,e1,e2,q⟩:=h
 subst e1;subst e2
 obtain⟨t,rfl⟩:=r1
 obtain⟨t',rfl⟩:=r2
 exact iadd_int ⟨.int _,H,I.tok _,⟨_,rfl⟩,q⟩
def tWhile(c:TT)(tb:TS):TS:=fun D σ H=> ∃W:Nat→St→Hp→Prop,(∃m,W m σ H)∧ ∀m σ H,W m σ H→
 c σ H fun b H1=>if b=true then ∃N:St→Hp→Prop,(∀σ' H',N σ' H'→ ∃m',m'<m∧W m' σ' H')∧tb {D with nx:=N,ct:=N,bk:=D.nx} σ H1 else D.nx σ H1
theorem ps_while{c:Expr}{body:List Stmt}{tc:TT}{tb:TS}(hp:PassesOwn (model X.prog X.w) X.A X.env X.xe)(hc:PT X c tc)(hb:PSs X body tb):PS X (.While c body [] pos) (tWhile tc tb):=by
 intro pins s σ H D I h
 obtain⟨W,⟨m0,w0⟩,turn⟩:=h
 refine wpAny_While (codeAny_whileLoop (fun n s'=> ∃σ' H',Inv X pins σ' H' s'∧W n σ' H') ?_ m0 ⟨σ,H,I,w0⟩)
 rintro n s1 ⟨σ1,H1,I1,w1⟩
 refine wpAny_passesOwn hp (thn (hc pins s1 σ1 H1 _ I1 (turn n σ1 H1 w1)) fun b s2 ⟨H2,I2,q2⟩=>?_)
 cases b with
 | true=>
  obtain⟨N,hN,q2⟩:=q2
  rw[if_pos rfl]
  refine wpAny_passesOwn hp (thn (hb pins s2 σ1 H2 _ I2 q2) fun f s3 q3=>?_)
  cases f with
  | next=>
   obtain⟨σ3,H3,I3,n3⟩:=q3
   obtain⟨m',hm,w3⟩:=hN σ3 H3 n3
   exact⟨m',hm,σ3,H3,I3,w3⟩
  | cont=>
   obtain⟨σ3,H3,I3,n3⟩:=q3
   obtain⟨m',hm,w3⟩:=hN σ3 H3 n3
   exact⟨m',hm,σ3,H3,I3,w3⟩
  | brk=>exact q3
  | ret v=>exact q3
 | false=>
  rw[if_neg Bool.false_ne_true]
  exact wpAny_execs_nil ⟨σ1,H2,I2,q2⟩
end
structure It where
 go:Nat→Hp→Prop
 yld:Nat→Hp→V→Hp→Prop
 stop:Nat→Hp→Prop
def FpOk(X:Cx)(pins:List (Addr×Obj))(H:Hp)(b:Addr):Prop:=
 H b=none∧b≠X.env.locals∧b∉X.fs∧(b∈X.ex∨X.s_0.heap.objs.size≤b)∧(∀x c,X.env.cells.lookup x=some c→c≠b)∧ ∀p∈X.pn++pins,p.1≠b
theorem Inv.fpOk{X:Cx}{pins:List (Addr×Obj)}{σ:St}{H H':Hp}{s:Shared}{b:Addr}(I:Inv X pins σ H s)(hb:s.heap.objs.size≤b)(hn:H' b=none):FpOk X pins H' b:=by
 refine⟨hn,Nat.ne_of_gt (Nat.lt_of_lt_of_le I.lt hb),I.nofs hb,.inr (Nat.le_trans I.sz hb),fun x c e z=>?_,fun p hp z=>?_⟩
 ·obtain⟨v,q⟩:=I.cell x c e
  exact absurd (Nat.lt_of_lt_of_le q.lt (by rw[z];exact hb)) (Nat.lt_irrefl _)
 ·exact absurd (Nat.lt_of_lt_of_le (Heap.lt_size (I.pin p hp).1) (by rw[z];exact hb)) (Nat.lt_irrefl _)
structure Turn(P:Program)(w:World)(K:PySem.W.Frag)(tg:Expr)(J:It)(fp:List Addr)(it:Addr)(tn:Nat→Heap→Prop):Prop where
 mem:it∈fp
 obj: ∀i h,tn i h→ ∀b∈fp,∃o,h.get? b=some o∧ ∀v,o.data≠ .cell v
 keep: ∀i h h',tn i h→(∀b∈fp,∀o,h.get? b=some o→h'.get? b=some o)→tn i h'
 item: ∀(X:Cx),X.prog=P→X.w=w→X.K=K→X.calm=true→ ∀(i:Nat) (pins:List (Addr×Obj)) (s:Shared) (σ:St) (H:Hp) (E:Value→Shared→Prop),Inv X pins σ H s→(∀b∈fp,FpOk X pins H b)→tn i s.heap→J.go i H→
  wpAny (model P w) X.A (pyNext (.ref it)) (fun r s1=> ∃u,r=some u∧
   wpAny (model P w) X.A (letOwnedTupleGo tg (.ref it) u) (fun _ s2=> ∃x H',Inv X pins σ H' s2∧RelV x u∧J.yld i H x H'∧tn (i+1) s2.heap∧ ∀b∈fp,H' b=none) E s1) E s
 done: ∀(X:Cx),X.prog=P→X.w=w→X.K=K→X.calm=true→ ∀(i:Nat) (pins:List (Addr×Obj)) (s:Shared) (σ:St) (H:Hp) (E:Value→Shared→Prop),Inv X pins σ H s→(∀b∈fp,FpOk X pins H b)→tn i s.heap→J.stop i H→
  wpAny (model P w) X.A (pyNext (.ref it)) (fun r s1=>r=none∧Inv X pins σ H s1) E s
 self: ∀(A:Around) (i:Nat) (s:Shared) (Q:Value→Shared→Prop) (E:Value→Shared→Prop),tn i s.heap→Q (.ref it) s→wpAny (model P w) A (pyIter (.ref it)) Q E s
abbrev TI:=St→Hp→(It→Hp→Prop)→Prop
def PIE(X:Cx)(pins:List (Addr×Obj))(σ:St)(tg:Expr)(R:It→Hp→Prop)(itv:Value)(s2:Shared):Prop:=
 ∃(it:Addr) (fp:List Addr) (tn:Nat→Heap→Prop) (J:It) (H':Hp),itv= .ref it∧Inv X pins σ H' s2∧Turn X.prog X.w X.K tg J fp it tn∧tn 0 s2.heap∧(∀b∈fp,FpOk X pins H' b)∧R J H'
def PI(X:Cx)(tg iter:Expr)(wi:TI):Prop:=
 ∀(pins:List (Addr×Obj)) (s:Shared) (σ:St) (H:Hp) (R:It→Hp→Prop),Inv X pins σ H s→wi σ H R→
  wpAny (model X.prog X.w) X.A (eval iter X.env) (fun v s1=>wpAny (model X.prog X.w) X.A (pyIter v) (PIE X pins σ tg R) X.xe s1) X.xe s
theorem go_of {M : Model} {A : Around} {E : Value → Shared → Prop} {s : Shared} {tg : Expr} {it : Addr} {u : Value} {o : Obj} {n : String} {vs : Array Value} {Q : Unit → Shared → Prop} (ho : s.heap.get? it = some o) (hc : o.cls = .type n) (hd : o.data = .fields vs)
    (hn : ["enumerate", "zip", "dict_itemiterator", "dict_reverseitemiterator", "odict_iterator", "itertools.zip_longest", "itertools.pairwise"].contains n = false) (hQ : Q () s) : wpAny M A (letOwnedTupleGo tg (.ref it) u) Q E s := by
  unfold letOwnedTupleGo
  cases tg <;> first
    | exact wpAny_pure hQ
    | (cases u <;> first
        | exact wpAny_pure hQ
        | (refine wpAny_bind (wpAny_load ho ?_)
           rw [hc, hd]
           show wpAny M A (if (["enumerate", "zip", "dict_itemiterator", "dict_reverseitemiterator", "odict_iterator", "itertools.zip_longest", "itertools.pairwise"].contains n && vs[0]? == some (rawInt _)) = true then _ else _) Q E s
           rw [if_neg (by intro h; rw [hn, Bool.false_and] at h; cases h)]
           exact wpAny_pure hQ))
def Itl(K:PySem.W.Frag)(a:Addr):It:=
 ⟨fun i H=> ∃xs x,SqL K H a xs∧xs[i]? =some x,fun i H x H'=>H'=H∧ ∀xs,SqL K H a xs→xs[i]? =some x,fun i H=> ∃xs,SqL K H a xs∧xs.length≤i⟩
def Itr(lo:Int)(n:Nat):It:=⟨fun i _=>i<n,fun i H x H'=>H'=H∧x= .int (lo+i),fun i _=>n≤i⟩
theorem turn_list{P:Program}{w:World}{K:PySem.W.Frag}{tg:Expr}(a it:Addr):Turn P w K tg (Itl K a) [it] it (fun i h=>h.IsListIter it a i) where
 mem:=by simp
 obj:=fun i h st b hb=>by
  have e:b=it:=by simpa using hb
  subst e
  obtain⟨o,e,c,d⟩:=st
  exact⟨o,e,fun v z=>by rw[d]at z;cases z⟩
 keep:=fun i h h' st k=>st.at fun o e=>k it (by simp) o e
 item:=by
  intro X hP hw hK hc i pins s σ H E I hf st hg
  subst hP hw hK
  obtain⟨xs,x,hq,hx⟩:=hg
  obtain⟨its,rv,p,hz⟩:=I.list hq
  obtain⟨u,hu,ru⟩:=rv.get hx
  obtain⟨f0,f1,f2,f3,f4,f5⟩:=hf it (by simp)
  refine wpAny_pyNext_list_item st p.isList (x:=u) (by simpa using hu) fun h' st' sb=>?_
  have I1:Inv X pins σ H {s with heap:=h'}:=I.turned (t':=s.toks) (fun b o hb e=>(sb.2 b hb).trans e) f0 f1 f3 f4 f5
  obtain⟨o,e,c,d⟩:=id st'
  exact⟨u,rfl,go_of (s:={s with heap:=h'}) e c d (by decide) ⟨x,H,I1,ru,⟨rfl,fun ys hy=>by rw[I.list_inj hy hq];exact hx⟩,st',fun b hb=>(hf b hb).1⟩⟩
 done:=by
  intro X hP hw hK hc i pins s σ H E I hf st hg
  subst hP hw hK
  obtain⟨xs,hq,hx⟩:=hg
  obtain⟨its,rv,p,hz⟩:=I.list hq
  obtain⟨f0,f1,f2,f3,f4,f5⟩:=hf it (by simp)
  have hl:=rv.length
  exact wpAny_pyNext_list_end (I.ok.hd hc) st p.isList (by simp;omega) fun h' eb=>⟨rfl,I.turned (t':=s.toks) (fun b o hb e=>eb b o hb e) f0 f1 f3 f4 f5⟩
 self:=fun _ _ _ _ _ st h=>wpAny_pyIter_listiter st h
theorem turn_range{P:Program}{w:World}{K:PySem.W.Frag}{tg:Expr}(it:Addr)(lo:Int)(n:Nat):Turn P w K tg (Itr lo n) [it] it (fun i h=>IsRangeIter h it (lo+(i:Nat)*1) ((n:Int)-(i:Nat)) 1) where
 mem:=by simp
 obj:=fun i h st b hb=>by
  have e:b=it:=by simpa using hb
  subst e
  exact⟨_,st,fun v z=>by
   have z':Data.fields _=Data.cell v:=z
   cases z'⟩
 keep:=fun i h h' st k=>k it (by simp) _ st
 item:=by
  intro X hP hw hK hc i pins s σ H E I hf st hg
  subst hP hw hK
  obtain⟨f0,f1,f2,f3,f4,f5⟩:=hf it (by simp)
  have W:=Walks.range (prog:=X.prog) (w:=X.w) (I.ok.hd hc) it lo 1 n
  refine W.item i s _ _ hg st fun v h' tk hv st' kk=>?_
  obtain⟨t,rfl⟩:=hv
  have I1:Inv X pins σ H {s with heap:=h',toks:=tk}:=I.turned (fun b o hb e=>kk b o (by simpa using hb) e) f0 f1 f3 f4 f5
  refine⟨_,rfl,go_of (s:={s with heap:=h',toks:=tk}) (n:="range_iterator") st' rfl rfl (by decide) ⟨.int (lo+i),H,I1,⟨t,?_⟩,⟨rfl,rfl⟩,st',fun b hb=>(hf b hb).1⟩⟩
  rw[Int.mul_one]
 done:=by
  intro X hP hw hK hc i pins s σ H E I hf st hg
  subst hP hw hK
  obtain⟨f0,f1,f2,f3,f4,f5⟩:=hf it (by simp)
  exact wpAny_pyNext_range_end (I.ok.hd hc) st (by have:n≤i:=hg;omega) fun h' eb=>⟨rfl,I.turned (t':=s.toks) (fun b o hb e=>eb b o hb e) f0 f1 f3 f4 f5⟩
 self:=fun _ _ _ _ _ st h=>wpAny_pyIter_rangeiter st h
section
variable {X:Cx}{tg:Expr}
def iList(K:PySem.W.Frag)(tl:TE):TI:=fun σ H R=>tl σ H fun x H1=> ∃a,x= .ref a∧(∃xs,SqL K H1 a xs)∧R (Itl K a) H1
theorem pi_list{l:Expr}{tl:TE}(hl:PE X l tl):PI X tg l (iList X.K tl):=by
 intro pins s σ H R I h
 refine thn (hl pins s σ H _ I h) fun v s1 ⟨x,H1,I1,r1,q1⟩=>?_
 obtain⟨a,e,⟨xs,hq⟩,q⟩:=q1
 subst e
 cases r1
 obtain⟨its,rv,p,hz⟩:=I1.list hq
 refine wpAny_pyIter_list p.isList ?_
 refine⟨s1.heap.objs.size,[s1.heap.objs.size],_,_,H1,rfl,I1.kept (t':=s1.toks) fun b o e=>Heap.get?_push_of_some _ e,turn_list a _,⟨_,Heap.get?_push_size _ rfl,rfl,rfl⟩,fun b hb=>?_,q⟩
 have e:b=s1.heap.objs.size:=by simpa using hb
 subst e
 exact I1.fpOk (Nat.le_refl _) (I1.hok.fresh (Nat.le_refl _))
theorem range_it{pins:List (Addr×Obj)}{σ:St}{H:Hp}{s:Shared}{R:It→Hp→Prop}{E:Value→Shared→Prop}{lo hi:Int}{t u v:Tok}{tk:Nat}(I:Inv X pins σ H s)(h1: -(2 ^ 62)≤lo)(h2:lo<2 ^ 62)(h3: -(2 ^ 62)≤hi)(h4:hi<2 ^ 62)
  (q:R (Itr lo (hi-lo).toNat) H):wpAny (model X.prog X.w) X.A (pyIter (.ref s.heap.objs.size)) (PIE X pins σ tg R) E {s with heap:=s.heap.push {cls:= .type "range",data:= .fields #[.int lo t,.int hi u,.int 1 v]},toks:=tk}:=by
 refine wpAny_pyIter_range (IsRange.new ..) (small_one h1 h2 h3 h4) ?_
 have I1:Inv X pins σ H {s with heap:=s.heap.push {cls:= .type "range",data:= .fields #[.int lo t,.int hi u,.int 1 v]},toks:=tk}:=I.kept fun b o e=>Heap.get?_push_of_some _ e
 refine⟨(s.heap.push {cls:= .type "range",data:= .fields #[.int lo t,.int hi u,.int 1 v]}).objs.size,[(s.heap.push {cls:= .type "range",data:= .fields #[.int lo t,.int hi u,.int 1 v]}).objs.size],_,_,H,rfl,
  I1.kept (t':=tk) fun b o e=>Heap.get?_push_of_some _ e,turn_range _ lo (hi-lo).toNat,?_,fun b hb=>?_,q⟩
 ·have e1:lo+((0:Nat):Int)*1=lo:=by simp
  have e2:(((hi-lo).toNat :Nat):Int)-((0:Nat):Int)=Builtin.Range.rangeSize lo hi 1:=by rw[rangeSize_one];split<;>omega
  show IsRangeIter _ _ (lo+((0:Nat):Int)*1) ((((hi-lo).toNat :Nat):Int)-((0:Nat):Int)) 1
  rw[e1,e2]
  exact Heap.get?_push_size _ rfl
 ·have e:b=(s.heap.push {cls:= .type "range",data:= .fields #[.int lo t,.int hi u,.int 1 v]}).objs.size :=by simpa using hb
  subst e
  exact I1.fpOk (Nat.le_refl _) (I1.hok.fresh (Nat.le_refl _))
def iRng1(ta:TA):TI:=fun σ H R=>ta σ H fun vs H1=> ∃j:Int,vs=[.int j]∧ -(2 ^ 62)≤j∧j<2 ^ 62∧R (Itr 0 j.toNat) H1
def iRng2(ta:TA):TI:=fun σ H R=>ta σ H fun vs H1=> ∃i j:Int,vs=[.int i,.int j]∧(-(2 ^ 62)≤i∧i<2 ^ 62∧ -(2 ^ 62)≤j∧j<2 ^ 62)∧R (Itr i (j-i).toNat) H1
theorem pi_range1{a:Expr}{ta:TA}{p pos:Pos}(hg:Gl X "range")(hm:X.mg "range"=none)(ha:PA X [a] ta)(hs:starEach [a] X.env=[(false,eval a X.env)]:=by rfl):PI X tg (.Call (.Name "range" p) [a] [] pos) (iRng1 ta):=by
 intro pins s σ H R I h
 refine Call_ (ld_blt I hg hm boot_range (PyProof.Rows.callWith_type1 (thn (ha pos pins s σ H _ I h) fun us s1 ⟨vs,H1,I1,r1,q1⟩=>?_) hs rfl))
 obtain⟨j,e,q1,q2,q⟩:=q1
 subst e
 cases r1 with
 | cons r rr=>
  cases rr
  obtain⟨t,rfl⟩:=r
  exact call_range_1 (range_it I1 (by omega) (by omega) q1 q2 (by simpa using q))
theorem pi_range2{a b:Expr}{ta:TA}{p pos:Pos}(hg:Gl X "range")(hm:X.mg "range"=none)(ha:PA X [a,b] ta)(hs:starEach [a,b] X.env=[(false,eval a X.env),(false,eval b X.env)]:=by rfl)(hs2:starEach [b] X.env=[(false,eval b X.env)]:=by rfl):
  PI X tg (.Call (.Name "range" p) [a,b] [] pos) (iRng2 ta):=by
 intro pins s σ H R I h
 refine Call_ (ld_blt I hg hm boot_range (PyProof.Rows.callWith_type1 (thn (ha pos pins s σ H _ I h) fun us s1 ⟨vs,H1,I1,r1,q1⟩=>?_) (by rw[hs,hs2]) (by rw[hs2];rfl)))
 obtain⟨i,j,e,⟨q1,q2,q3,q4⟩,q⟩:=q1
 subst e
 cases r1 with
 | cons r rr=>
  cases rr with
  | cons r' rr=>
   cases rr
   obtain⟨t,rfl⟩:=r
   obtain⟨t',rfl⟩:=r'
   exact call_range_2 (range_it I1 q1 q2 q3 q4 q)
def tFor(wi:TI)(g:TG)(tb:TS):TS:=fun D σ H=>wi σ H fun J H1=> ∃W:Nat→Nat→St→Hp→Prop,(∃m,W 0 m σ H1)∧ ∀i m σ H,W i m σ H→
 (J.stop i H∧D.nx σ H)∨(J.go i H∧ ∃N:St→Hp→Prop,(∀σ' H',N σ' H'→ ∃m',m'<m∧W (i+1) m' σ' H')∧ ∀x H',J.yld i H x H'→g x σ H' fun σ2 H2=>tb {D with nx:=N,ct:=N,bk:=D.nx} σ2 H2)
def pinsAt(fp:List Addr)(h:Heap):List (Addr×Obj):=fp.filterMap fun b=>(h.get? b).map fun o=>(b,o)
theorem mem_pinsAt{fp:List Addr}{h:Heap}{b:Addr}{o:Obj}(hb:b∈fp)(e:h.get? b=some o):(b,o)∈pinsAt fp h:=List.mem_filterMap.mpr ⟨b,hb,by rw[e];rfl⟩
theorem of_pinsAt{fp:List Addr}{h:Heap}{p:Addr×Obj}(hp:p∈pinsAt fp h):p.1∈fp∧h.get? p.1=some p.2:=by
 obtain⟨b,hb,e⟩:=List.mem_filterMap.mp hp
 cases q:h.get? b with
 | none=>rw[q]at e;cases e
 | some o=>
  rw[q]at e
  have e':(b,o)=p:=Option.some.inj e
  subst e'
  exact⟨hb,q⟩
theorem Inv.pinned{pins:List (Addr×Obj)}{σ:St}{H:Hp}{s:Shared}{fp:List Addr}(I:Inv X pins σ H s)(hf: ∀b∈fp,FpOk X pins H b)(ho: ∀b∈fp,∃o,s.heap.get? b=some o∧ ∀v,o.data≠ .cell v):Inv X (pins++pinsAt fp s.heap) σ H s:=
 I.pins_of fun p hp=>(List.mem_append.mp hp).elim (fun z=>I.pin p (List.mem_append_right _ z)) fun z=>by
  obtain⟨hb,e⟩:=of_pinsAt z
  obtain⟨f0,f1,f2,_⟩:=hf p.1 hb
  obtain⟨o,e',d⟩:=ho p.1 hb
  rw[e]at e';cases e'
  exact⟨e,f0,f1,f2,d⟩
theorem Inv.unpinned{pins pl:List (Addr×Obj)}{σ:St}{H:Hp}{s:Shared}(I:Inv X (pins++pl) σ H s):Inv X pins σ H s:=I.pins_of fun p hp=>I.pin p (List.mem_append_right _ (List.mem_append_left _ hp))
theorem ps_for{iter:Expr}{body:List Stmt}{wi:TI}{g:TG}{tb:TS}{pos:Pos}(hp:PassesOwn (model X.prog X.w) X.A X.env X.xe)(hc:X.calm=true)(hi:PI X tg iter wi)(hg:PG X tg g)(hb:PSs X body tb)
  (hs: ∀x,foldedSetIterable iter X.env x=pure x:=by intro _;rfl):PS X (.For tg iter body [] pos) (tFor wi g tb):=by
 intro pins s σ H D I h
 refine wpAny_For (thn (hi pins s σ H _ I h) fun v s1 h1=>thn h1 fun itv s2 h2=>?_) hs
 obtain⟨it,fp,tn,J,H2,e,I2,T,st2,f2,W,⟨m0,w0⟩,turn⟩:=h2
 subst e
 have stat: ∀{H':Hp},(∀b∈fp,H' b=none)→ ∀b∈fp,FpOk X pins H' b:=fun hn b hb=>⟨hn b hb,(f2 b hb).2⟩
 refine codeAny_forLoop_any (fun n s'=> ∃i σ' H',Inv X pins σ' H' s'∧tn i s'.heap∧(∀b∈fp,H' b=none)∧W i n σ' H') ?_ m0 ⟨0,σ,H2,I2,st2,fun b hb=>(f2 b hb).1,w0⟩
 rintro n s3 ⟨i,σ3,H3,I3,st3,fr3,w3⟩
 rcases turn i n σ3 H3 w3 with ⟨stop,qn⟩ | ⟨go,N,hN,step⟩
 ·refine wpAny_passesOwn hp (thn (T.done X rfl rfl rfl hc i pins s3 σ3 H3 X.xe I3 (stat fr3) st3 stop) fun r s4 ⟨hr,I4⟩=>?_)
  subst hr
  exact wpAny_execs_nil ⟨σ3,H3,I4,qn⟩
 ·refine wpAny_passesOwn hp (thn (T.item X rfl rfl rfl hc i pins s3 σ3 H3 X.xe I3 (stat fr3) st3 go) fun r s4 ⟨u,hr,h4⟩=>?_)
  subst hr
  refine wpAny_passesOwn hp (thn h4 fun _ s5 ⟨x,H5,I5,r5,y5,st5,fr5⟩=>?_)
  have I5':=I5.pinned (stat fr5) (T.obj _ _ st5)
  refine wpAny_passesOwn hp (thn (hg _ s5 σ3 H5 x u _ I5' r5 (step x H5 y5)) fun _ s6 ⟨σ6,H6,I6,q6⟩=>?_)
  refine wpAny_passesOwn hp (thn (hb _ s6 σ6 H6 _ I6 q6) fun f s7 q7=>?_)
  have again: ∀{σ7:St} {H7:Hp},Inv X (pins++pinsAt fp s5.heap) σ7 H7 s7→N σ7 H7→ ∃m,m<n∧ ∃i σ' H',Inv X pins σ' H' s7∧tn i s7.heap∧(∀b∈fp,H' b=none)∧W i m σ' H':=fun{σ7 H7} I7 n7=>by
   obtain⟨m',hm,w7⟩:=hN σ7 H7 n7
   refine⟨m',hm,i+1,σ7,H7,I7.unpinned,T.keep _ _ _ st5 fun b hb o e=>(I7.pin (b,o) (List.mem_append_right _ (List.mem_append_right _ (mem_pinsAt hb e)))).1,fun b hb=>?_,w7⟩
   obtain⟨o,e,d⟩:=T.obj _ _ st5 b hb
   exact(I7.pin (b,o) (List.mem_append_right _ (List.mem_append_right _ (mem_pinsAt hb e)))).2.1
  cases f with
  | next=>obtain⟨σ7,H7,I7,n7⟩:=q7;exact again I7 n7
  | cont=>obtain⟨σ7,H7,I7,n7⟩:=q7;exact again I7 n7
  | brk=>obtain⟨σ7,H7,I7,q7⟩:=q7;exact⟨σ7,H7,I7.unpinned,q7⟩
  | ret v=>obtain⟨x7,σ7,H7,I7,r7,q7⟩:=q7;exact⟨x7,σ7,H7,I7.unpinned,r7,q7⟩
end
theorem for_list{K:PySem.W.Frag}{a:Addr}{xs:List V}{g:TG}{tb:TS}{D:Ends}{σ:St}{H:Hp}(Pv:Nat→St→Hp→Prop)(h0:Pv 0 σ H)(hl: ∀i σ H,i≤xs.length→Pv i σ H→SqL K H a xs)
  (hs: ∀i x σ H,xs[i]? =some x→Pv i σ H→g x σ H fun σ2 H2=>tb {D with nx:=Pv (i+1),ct:=Pv (i+1),bk:=D.nx} σ2 H2)(hd: ∀σ H,Pv xs.length σ H→D.nx σ H):
  ∃W:Nat→Nat→St→Hp→Prop,(∃m,W 0 m σ H)∧ ∀i m σ H,W i m σ H→
   ((Itl K a).stop i H∧D.nx σ H)∨((Itl K a).go i H∧ ∃N:St→Hp→Prop,(∀σ' H',N σ' H'→ ∃m',m'<m∧W (i+1) m' σ' H')∧ ∀x H',(Itl K a).yld i H x H'→g x σ H' fun σ2 H2=>tb {D with nx:=N,ct:=N,bk:=D.nx} σ2 H2):=by
 refine⟨fun i m σ H=>m=xs.length-i∧i≤xs.length∧Pv i σ H,⟨xs.length,by simp,Nat.zero_le _,h0⟩,?_⟩
 rintro i m σ H ⟨rfl,hi,p⟩
 have q:=hl i σ H hi p
 by_cases hlt:i<xs.length
 ·refine .inr ⟨⟨xs,xs[i],q,by simp[hlt]⟩,Pv (i+1),fun σ' H' p'=>⟨xs.length-(i+1),by omega,rfl,hlt,p'⟩,fun x H' y=>?_⟩
  obtain⟨e,y⟩:=y
  subst e
  exact hs i x σ _ (y xs q) p
 ·have e:i=xs.length:=by omega
  subst e
  exact .inl ⟨⟨xs,q,Nat.le_refl _⟩,hd σ H p⟩
theorem for_range{lo:Int}{n:Nat}{g:TG}{tb:TS}{D:Ends}{σ:St}{H:Hp}(Pv:Nat→St→Hp→Prop)(h0:Pv 0 σ H)
  (hs: ∀i σ H,i<n→Pv i σ H→g (.int (lo+i)) σ H fun σ2 H2=>tb {D with nx:=Pv (i+1),ct:=Pv (i+1),bk:=D.nx} σ2 H2)(hd: ∀σ H,Pv n σ H→D.nx σ H):
  ∃W:Nat→Nat→St→Hp→Prop,(∃m,W 0 m σ H)∧ ∀i m σ H,W i m σ H→
   ((Itr lo n).stop i H∧D.nx σ H)∨((Itr lo n).go i H∧ ∃N:St→Hp→Prop,(∀σ' H',N σ' H'→ ∃m',m'<m∧W (i+1) m' σ' H')∧ ∀x H',(Itr lo n).yld i H x H'→g x σ H' fun σ2 H2=>tb {D with nx:=N,ct:=N,bk:=D.nx} σ2 H2):=by
 refine⟨fun i m σ H=>m=n-i∧i≤n∧Pv i σ H,⟨n,by simp,Nat.zero_le _,h0⟩,?_⟩
 rintro i m σ H ⟨rfl,hi,p⟩
 by_cases hlt:i<n
 ·refine .inr ⟨hlt,Pv (i+1),fun σ' H' p'=>⟨n-(i+1),by omega,rfl,hlt,p'⟩,fun x H' y=>?_⟩
  obtain⟨e,y⟩:=y
  subst e y
  exact hs i σ _ hlt p
 ·have e:i=n:=by omega
  subst e
  exact .inl ⟨Nat.le_refl _,hd σ H p⟩
abbrev R2:=V→V→Hp→VK→Prop
def OpR(X:Cx)(f:Value→Value→Sem Value)(r:R2):Prop:=
 ∀(pins:List (Addr×Obj)) (s:Shared) (σ:St) (H:Hp) (x y:V) (v u:Value) (Q:VK),Inv X pins σ H s→RelV x v→RelV y u→r x y H Q→
  wpAny (model X.prog X.w) X.A (f v u) (EP X pins σ Q) X.xe s
def UnR(X:Cx)(f:Value→Sem Value)(r:V→Hp→VK→Prop):Prop:=
 ∀(pins:List (Addr×Obj)) (s:Shared) (σ:St) (H:Hp) (x:V) (v:Value) (Q:VK),Inv X pins σ H s→RelV x v→r x H Q→
  wpAny (model X.prog X.w) X.A (f v) (EP X pins σ Q) X.xe s
def CallR(X:Cx)(f:Value)(r:List V→Hp→VK→Prop):Prop:=
 ∀(pins:List (Addr×Obj)) (s:Shared) (σ:St) (H:Hp) (xs:List V) (us:List Value) (Q:VK),Inv X pins σ H s→Vals xs us→r xs H Q→
  wpAny (model X.prog X.w) X.A (call f us) (EP X pins σ Q) X.xe s
def TruR(X:Cx)(r:V→Hp→(Bool→Hp→Prop)→Prop):Prop:=
 ∀(pins:List (Addr×Obj)) (s:Shared) (σ:St) (H:Hp) (x:V) (v:Value) (Q:Bool→Hp→Prop),Inv X pins σ H s→RelV x v→r x H Q→
  wpAny (model X.prog X.w) X.A (truthy v) (TP X pins σ Q) X.xe s
def tOp(r:R2)(ta tb:TE):TE:=fun σ H Q=>ta σ H fun x H1=>tb σ H1 fun y H2=>r x y H2 Q
def tUn(r:V→Hp→VK→Prop)(ta:TE):TE:=fun σ H Q=>ta σ H fun x H1=>r x H1 Q
def rI(C:Int→Int→Prop)(g:Int→Int→V):R2:=fun x y H Q=> ∃i j,x= .int i∧y= .int j∧C i j∧Q (g i j) H
def rI0(g:Int→Int→V):R2:=fun x y H Q=> ∃i j,x= .int i∧y= .int j∧Q (g i j) H
def rU(g:Int→V):V→Hp→VK→Prop:=fun x H Q=> ∃i,x= .int i∧Q (g i) H
section
variable {X:Cx}{a b c:Expr}{ta tb tc:TE}{pos:Pos}
theorem binT(ha:PE X a ta)(hb:PE X b tb){pins:List (Addr×Obj)}{s:Shared}{σ:St}{H:Hp}{R:V→V→Hp→Prop}(I:Inv X pins σ H s)
  (h:ta σ H fun x H1=>tb σ H1 fun y H2=>R x y H2){Q:Value→Shared→Prop}{f:Value→Value→Sem Value}
  (hf: ∀v u s2 x y H2,Inv X pins σ H2 s2→RelV x v→RelV y u→R x y H2→wpAny (model X.prog X.w) X.A (f v u) Q X.xe s2):
  wpAny (model X.prog X.w) X.A (eval a X.env) (fun v s₁=>wpAny (model X.prog X.w) X.A (eval b X.env) (fun u s₂=>wpAny (model X.prog X.w) X.A (f v u) Q X.xe s₂) X.xe s₁) X.xe s:=by
 refine thn (ha pins s σ H _ I h) fun v s1 ⟨x,H1,I1,r1,q1⟩=>?_
 refine thn (hb pins s1 σ H1 _ I1 q1) fun u s2 ⟨y,H2,I2,r2,q2⟩=>?_
 exact hf v u s2 x y H2 I2 r1 r2 q2
theorem pe_op{op:Operator}{r:R2}(ho:OpR X (binaryOp op) r)(ha:PE X a ta)(hb:PE X b tb):PE X (.BinOp a op b pos) (tOp r ta tb):=by
 intro pins s σ H Q I h
 exact wpAny_BinOp (binT ha hb I h fun v u s2 x y H2 I2 rx ry q=>ho pins s2 σ H2 x y v u Q I2 rx ry q)
theorem pe_un{op:UnaryOp}{r:V→Hp→VK→Prop}(ho:UnR X (unaryOp op) r)(ha:PE X a ta):PE X (.UnaryOp op a pos) (tUn r ta):=by
 intro pins s σ H Q I h
 exact UnaryOp_ (thn (ha pins s σ H _ I h) fun v s1 ⟨x,H1,I1,r1,q1⟩=>ho pins s1 σ H1 x v Q I1 r1 q1)
theorem opI{f:Value→Value→Sem Value}{C:Int→Int→Prop}{g:Int→Int→Int}
  (rule: ∀(i j:Int) (t u:Tok) (s:Shared) (Q:Value→Shared→Prop) (E:Value→Shared→Prop),C i j→Q (.int (g i j) s.toks) {s with toks:=s.toks+1}→wpAny (model X.prog X.w) X.A (f (.int i t) (.int j u)) Q E s):
  OpR X f (rI C fun i j=> .int (g i j)):=by
 intro pins s σ H x y v u Q I rx ry h
 obtain⟨i,j,rfl,rfl,hc,q⟩:=h
 obtain⟨t,rfl⟩:=rx
 obtain⟨t',rfl⟩:=ry
 exact rule i j t t' s _ _ hc ⟨.int (g i j),H,I.tok _,⟨_,rfl⟩,q⟩
theorem opI0{f:Value→Value→Sem Value}{g:Int→Int→Int}
  (rule: ∀(i j:Int) (t u:Tok) (s:Shared) (Q:Value→Shared→Prop) (E:Value→Shared→Prop),Q (.int (g i j) s.toks) {s with toks:=s.toks+1}→wpAny (model X.prog X.w) X.A (f (.int i t) (.int j u)) Q E s):
  OpR X f (rI0 fun i j=> .int (g i j)):=by
 intro pins s σ H x y v u Q I rx ry h
 obtain⟨i,j,rfl,rfl,q⟩:=h
 obtain⟨t,rfl⟩:=rx
 obtain⟨t',rfl⟩:=ry
 exact rule i j t t' s _ _ ⟨.int (g i j),H,I.tok _,⟨_,rfl⟩,q⟩
theorem opB0{f:Value→Value→Sem Value}{g:Int→Int→Bool}
  (rule: ∀(i j:Int) (t u:Tok) (s:Shared) (Q:Value→Shared→Prop) (E:Value→Shared→Prop),Q (.bool (g i j)) s→wpAny (model X.prog X.w) X.A (f (.int i t) (.int j u)) Q E s):
  OpR X f (rI0 fun i j=> .bl (g i j)):=by
 intro pins s σ H x y v u Q I rx ry h
 obtain⟨i,j,rfl,rfl,q⟩:=h
 obtain⟨t,rfl⟩:=rx
 obtain⟨t',rfl⟩:=ry
 exact rule i j t t' s _ _ ⟨.bl (g i j),H,I,rfl,q⟩
def CPow(i j:Int):Prop:=0≤j∧j≤1000000∧i.natAbs<2 ^ 64
def CMul(i j:Int):Prop:=(-(2 ^ 64)<i∧i<2 ^ 64)∨(-(2 ^ 64)<j∧j<2 ^ 64)
theorem CMul.ok{i j:Int}(h:CMul i j):IntMulOk i j:=by
 rcases h with ⟨h1,h2⟩ | ⟨h1,h2⟩
 ·exact .of_left (intBits_le_64 h1 h2)
 ·exact .of_right (intBits_le_64 h1 h2)
theorem op_add:OpR X (binaryOp .Add) (rI0 fun i j=> .int (i+j)):=opI0 fun _ _ _ _ _ _ _ q=>add_int q
theorem op_sub:OpR X (binaryOp .Sub) (rI0 fun i j=> .int (i-j)):=opI0 fun _ _ _ _ _ _ _ q=>sub_int q
theorem op_mul:OpR X (binaryOp .Mult) (rI CMul fun i j=> .int (i*j)):=opI fun _ _ _ _ _ _ _ hc q=>mul_int q hc.ok
theorem op_shl:OpR X (binaryOp .LShift) (rI CPow fun i j=> .int (i*2 ^ j.toNat)):=opI fun _ _ _ _ _ _ _ hc q=>lshift_int_small hc.1 hc.2.1 hc.2.2 q
theorem op_and:OpR X (binaryOp .BitAnd) (rI0 fun i j=> .int (Builtin.bitAnd i j)):=opI0 fun _ _ _ _ _ _ _ q=>and_int q
theorem op_or:OpR X (binaryOp .BitOr) (rI0 fun i j=> .int (Builtin.bitOr i j)):=opI0 fun _ _ _ _ _ _ _ q=>or_int q
theorem unI{f:Value→Sem Value}{g:Int→Int}
  (rule: ∀(i:Int) (t:Tok) (s:Shared) (Q:Value→Shared→Prop) (E:Value→Shared→Prop),Q (.int (g i) s.toks) {s with toks:=s.toks+1}→wpAny (model X.prog X.w) X.A (f (.int i t)) Q E s):
  UnR X f (rU fun i=> .int (g i)):=by
 intro pins s σ H x v Q I rx h
 obtain⟨i,rfl,q⟩:=h
 obtain⟨t,rfl⟩:=rx
 exact rule i t s _ _ ⟨.int (g i),H,I.tok _,⟨_,rfl⟩,q⟩
theorem un_neg:UnR X (unaryOp .USub) (rU fun i=> .int (-i)):=unI fun _ _ _ _ _ q=>neg_int q
end
def scal:V→V→Bool
 | .non,.non =>true | .non,.int _=>true | .int _,.non =>true | .non,.bl _=>true | .bl _,.non =>true | .non,.str _=>true | .str _,.non =>true
 | .int _,.int _=>true | .bl _,.bl _=>true | .str _,.str _=>true | .byt _,.byt _=>true
 | .int _,.str _=>true | .str _,.int _=>true | .bl _,.str _=>true | .str _,.bl _=>true
 | _,_=>false
def rEq:R2:=fun x y H Q=>scal x y=true∧Q (.bl (decide (x=y))) H
def rNe:R2:=fun x y H Q=>scal x y=true∧Q (.bl (!decide (x=y))) H
theorem dec_int{i j:Int}:decide (V.int i=V.int j)=(i==j):=by
 rw[Bool.eq_iff_iff]
 simp
theorem dec_bl{i j:Bool}:decide (V.bl i=V.bl j)=(i==j):=by
 rw[Bool.eq_iff_iff]
 simp
theorem dec_str{i j:Str}:decide (V.str i=V.str j)=(i==j):=by
 rw[Bool.eq_iff_iff]
 simp
theorem dec_byt{i j:Array UInt8}:decide (V.byt i=V.byt j)=(i.toList==j.toList):=by
 rw[Bool.eq_iff_iff]
 cases i
 cases j
 simp
section
variable {X:Cx}{a b c:Expr}{ta tb tc:TE}{pos:Pos}
theorem fin_bl{pins:List (Addr×Obj)}{σ:St}{H:Hp}{s:Shared}{Q:VK}{k k':Bool}(I:Inv X pins σ H s)(q:Q (.bl k) H)(e:k=k'):EP X pins σ Q (.bool k') s:=by
 subst e
 exact⟨.bl k,H,I,rfl,q⟩
theorem op_eq:OpR X (compareOp .Eq) rEq:=by
 intro pins s σ H x y v u Q I rx ry h
 obtain⟨hs,q⟩:=h
 cases x with
 | non=>
  cases rx
  cases y with
  | non=>cases ry;exact PySem.EqNone.eq_none_none (fin_bl I q (by simp))
  | bl j=>cases ry;exact PySem.EqNone.eq_none_bool (fin_bl I q (by simp))
  | int j=>obtain⟨t',rfl⟩:=ry;exact PySem.EqNone.eq_none_int (fin_bl I q (by simp))
  | str j=>obtain⟨t',rfl⟩:=ry;exact PySem.EqNone.eq_none_str (fin_bl I q (by simp))
  | _=>exact absurd (show false=true from hs) Bool.false_ne_true
 | bl i=>
  cases rx
  cases y with
  | non=>cases ry;exact PySem.EqNone.eq_bool_none (fin_bl I q (by simp))
  | bl j=>cases ry;exact eq_bool (fin_bl I q dec_bl)
  | str j=>obtain⟨t',rfl⟩:=ry;exact PySem.EqMixed.eq_bool_str (fin_bl I q (by simp))
  | _=>exact absurd (show false=true from hs) Bool.false_ne_true
 | int i=>
  obtain⟨t,rfl⟩:=rx
  cases y with
  | non=>cases ry;exact PySem.EqNone.eq_int_none (fin_bl I q (by simp))
  | int j=>obtain⟨t',rfl⟩:=ry;exact eq_int (fin_bl I q dec_int)
  | str j=>obtain⟨t',rfl⟩:=ry;exact PySem.EqMixed.eq_int_str (fin_bl I q (by simp))
  | _=>exact absurd (show false=true from hs) Bool.false_ne_true
 | str i=>
  obtain⟨t,rfl⟩:=rx
  cases y with
  | non=>cases ry;exact PySem.EqNone.eq_str_none (fin_bl I q (by simp))
  | bl j=>cases ry;exact PySem.EqMixed.eq_str_bool (fin_bl I q (by simp))
  | int j=>obtain⟨t',rfl⟩:=ry;exact PySem.EqMixed.eq_str_int (fin_bl I q (by simp))
  | str j=>obtain⟨t',rfl⟩:=ry;exact eq_str (fin_bl I q dec_str)
  | _=>exact absurd (show false=true from hs) Bool.false_ne_true
 | byt i=>
  obtain⟨t,rfl⟩:=rx
  cases y with
  | byt j=>obtain⟨t',rfl⟩:=ry;exact PySem.W.eq_bytes (fin_bl I q dec_byt)
  | _=>exact absurd (show false=true from hs) Bool.false_ne_true
 | _=>cases y<;>exact absurd (show false=true from hs) Bool.false_ne_true
theorem op_ne:OpR X (compareOp .NotEq) rNe:=by
 intro pins s σ H x y v u Q I rx ry h
 obtain⟨hs,q⟩:=h
 cases x with
 | non=>
  cases rx
  cases y with
  | non=>cases ry;exact PySem.EqNone.ne_none_none (fin_bl I q (by simp))
  | bl j=>cases ry;exact PySem.EqNone.ne_none_bool (fin_bl I q (by simp))
  | int j=>obtain⟨t',rfl⟩:=ry;exact PySem.EqNone.ne_none_int (fin_bl I q (by simp))
  | str j=>obtain⟨t',rfl⟩:=ry;exact PySem.EqNone.ne_none_str (fin_bl I q (by simp))
  | _=>exact absurd (show false=true from hs) Bool.false_ne_true
 | bl i=>
  cases rx
  cases y with
  | non=>cases ry;exact PySem.EqNone.ne_bool_none (fin_bl I q (by simp))
  | bl j=>cases ry;exact ne_bool (fin_bl I q (congrArg not dec_bl))
  | str j=>obtain⟨t',rfl⟩:=ry;exact PySem.EqMixed.ne_bool_str (fin_bl I q (by simp))
  | _=>exact absurd (show false=true from hs) Bool.false_ne_true
 | int i=>
  obtain⟨t,rfl⟩:=rx
  cases y with
  | non=>cases ry;exact PySem.EqNone.ne_int_none (fin_bl I q (by simp))
  | int j=>obtain⟨t',rfl⟩:=ry;exact ne_int (fin_bl I q (congrArg not dec_int))
  | str j=>obtain⟨t',rfl⟩:=ry;exact PySem.EqMixed.ne_int_str (fin_bl I q (by simp))
  | _=>exact absurd (show false=true from hs) Bool.false_ne_true
 | str i=>
  obtain⟨t,rfl⟩:=rx
  cases y with
  | non=>cases ry;exact PySem.EqNone.ne_str_none (fin_bl I q (by simp))
  | bl j=>cases ry;exact PySem.EqMixed.ne_str_bool (fin_bl I q (by simp))
  | int j=>obtain⟨t',rfl⟩:=ry;exact PySem.EqMixed.ne_str_int (fin_bl I q (by simp))
  | str j=>obtain⟨t',rfl⟩:=ry;exact ne_str (fin_bl I q (congrArg not dec_str))
  | _=>exact absurd (show false=true from hs) Bool.false_ne_true
 | byt i=>
  obtain⟨t,rfl⟩:=rx
  cases y with
  | byt j=>obtain⟨t',rfl⟩:=ry;exact PySem.W.ne_bytes (fin_bl I q (congrArg not dec_byt))
  | _=>exact absurd (show false=true from hs) Bool.false_ne_true
 | _=>cases y<;>exact absurd (show false=true from hs) Bool.false_ne_true
theorem op_lt:OpR X (compareOp .Lt) (rI0 fun i j=> .bl (decide (i<j))):=opB0 fun _ _ _ _ _ _ _ q=>lt_int q
theorem op_le:OpR X (compareOp .LtE) (rI0 fun i j=> .bl (decide (i≤j))):=opB0 fun _ _ _ _ _ _ _ q=>le_int q
theorem op_gt:OpR X (compareOp .Gt) (rI0 fun i j=> .bl (decide (j<i))):=opB0 fun _ _ _ _ _ _ _ q=>gt_int q
theorem op_ge:OpR X (compareOp .GtE) (rI0 fun i j=> .bl (decide (j≤i))):=opB0 fun _ _ _ _ _ _ _ q=>ge_int q
theorem op_isN:OpR X (compareOp .Is) (fun x y H Q=>y= .non ∧Q (.bl (decide (x= .non))) H):=by
 intro pins s σ H x y v u Q I rx ry h
 obtain⟨rfl,q⟩:=h
 cases ry
 refine is_none_gen (fin_bl I q ?_)
 cases x<;>first
  | (cases rx;rfl)
  | (obtain⟨t,rfl⟩:=rx;rfl)
theorem op_notN:OpR X (compareOp .IsNot) (fun x y H Q=>y= .non ∧Q (.bl (!decide (x= .non))) H):=by
 intro pins s σ H x y v u Q I rx ry h
 obtain⟨rfl,q⟩:=h
 cases ry
 refine isnot_none_gen (fin_bl I q ?_)
 cases x<;>first
  | (cases rx;rfl)
  | (obtain⟨t,rfl⟩:=rx;rfl)
theorem nomark(b:Expr){op:CmpOp}(h:op≠ .In :=by decide)(h2:op≠ .NotIn :=by decide):behindInMarks op b=false:=by
 have e1:(op==CmpOp.In)=false:=by cases op<;>first | rfl | exact absurd rfl h
 have e2:(op==CmpOp.NotIn)=false:=by cases op<;>first | rfl | exact absurd rfl h2
 cases b<;>simp[behindInMarks,e1,e2]
theorem pe_cmpR{op:CmpOp}{r:R2}(ho:OpR X (compareOp op) r)(ha:PE X a ta)(hb:PE X b tb)(hm:behindInMarks op b=false):PE X (.Compare a [op] [b] pos) (tOp r ta tb):=by
 intro pins s σ H Q I h
 exact wpAny_Compare1 (binT ha hb I h fun v u s2 x y H2 I2 rx ry q=>ho pins s2 σ H2 x y v u Q I2 rx ry q) hm
def tTest(t:TE):TT:=fun σ H Q=>t σ H fun x H'=> ∃k,x= .bl k∧Q k H'
theorem pt_cmpR{op:CmpOp}{r:R2}(ho:OpR X (compareOp op) r)(ha:PE X a ta)(hb:PE X b tb)(hm:behindInMarks op b=false):PT X (.Compare a [op] [b] pos) (tTest (tOp r ta tb)):=by
 intro pins s σ H Q I h
 refine wpAny_isTrue_Compare1 (thn (ha pins s σ H _ I h) fun v s1 ⟨x,H1,I1,r1,q1⟩=>thn (hb pins s1 σ H1 _ I1 q1) fun u s2 ⟨y,H2,I2,r2,q2⟩=>
  thn (ho pins s2 σ H2 x y v u _ I2 r1 r2 q2) fun c s3 ⟨z,H3,I3,r3,k,e,q3⟩=>?_) hm
 subst e
 cases r3
 exact wpAny_truthy_bool ⟨H3,I3,q3⟩
def tChain(r r':R2)(ta tb tc:TE):TE:=fun σ H Q=>ta σ H fun x H1=>tb σ H1 fun y H2=>r x y H2 fun z H3=> ∃k,z= .bl k∧
 (if k=true then tc σ H3 fun w' H4=>r' y w' H4 Q else Q (.bl false) H3)
theorem pe_chain{op op':CmpOp}{r r':R2}(ho:OpR X (compareOp op) r)(ho':OpR X (compareOp op') r')(ha:PE X a ta)(hb:PE X b tb)(hc:PE X c tc)
  (hm:lastMarks [op,op'] [b,c]=false:=by with_unfolding_all rfl):PE X (.Compare a [op,op'] [b,c] pos) (tChain r r' ta tb tc):=by
 intro pins s σ H Q I h
 refine Compare_chain (thn (ha pins s σ H _ I h) fun v s1 ⟨x,H1,I1,r1,q1⟩=>chain_link (thn (hb pins s1 σ H1 _ I1 q1) fun u s2 ⟨y,H2,I2,r2,q2⟩=>
  thn (ho pins s2 σ H2 x y v u _ I2 r1 r2 q2) fun d s3 ⟨z,H3,I3,r3,k,e,q3⟩=>?_)) hm
 subst e
 cases r3
 refine wpAny_truthy_bool ?_
 cases k with
 | false=>exact ite_ff ⟨.bl false,H3,I3,rfl,q3⟩
 | true=>exact ite_tt (chain_last (thn (hc pins s3 σ H3 _ I3 q3) fun w' s4 ⟨z',H4,I4,r4,q4⟩=>ho' pins s4 σ H4 y z' u w' Q I4 r2 r4 q4))
theorem pt_chain{op op':CmpOp}{r r':R2}(ho:OpR X (compareOp op) r)(ho':OpR X (compareOp op') r')(ha:PE X a ta)(hb:PE X b tb)(hc:PE X c tc)
  (hm:lastMarks [op,op'] [b,c]=false:=by with_unfolding_all rfl):PT X (.Compare a [op,op'] [b,c] pos) (tTest (tChain r r' ta tb tc)):=by
 intro pins s σ H Q I h
 refine isTrue_chain (thn (ha pins s σ H _ I h) fun v s1 ⟨x,H1,I1,r1,q1⟩=>test_link (thn (hb pins s1 σ H1 _ I1 q1) fun u s2 ⟨y,H2,I2,r2,q2⟩=>
  thn (ho pins s2 σ H2 x y v u _ I2 r1 r2 q2) fun d s3 ⟨z,H3,I3,r3,k,e,q3⟩=>?_)) hm
 subst e
 cases r3
 refine wpAny_truthy_bool ?_
 cases k with
 | false=>
  obtain⟨k',e',q'⟩:=q3
  cases e'
  exact ite_ff ⟨H3,I3,q'⟩
 | true=>
  refine ite_tt (test_last (thn (hc pins s3 σ H3 _ I3 q3) fun w' s4 ⟨z',H4,I4,r4,q4⟩=>thn (ho' pins s4 σ H4 y z' u w' _ I4 r2 r4 q4) fun d' s5 ⟨z2,H5,I5,r5,k2,e2,q5⟩=>?_))
  subst e2
  cases r5
  exact wpAny_truthy_bool ⟨H5,I5,q5⟩
def TruV(K:PySem.W.Frag)(x:V)(H:Hp)(k:Bool):Prop:=
 match x with
 | .non =>k=false
 | .bl b=>k=b
 | .int i=>k=(i != 0)
 | .str y=>y.length≤sizeLine∧k=((y.length:Int) != 0)
 | .byt y=>y.size≤sizeLine∧k=((y.size:Int) != 0)
 | .ref p=>(∃xs,SqL K H p xs∧k= !xs.isEmpty)∨(∃xs,SqT K H p xs∧k= !xs.isEmpty)∨ ∃kvs,H p=some (.dK kvs)∧k= !kvs.isEmpty
 | _=>False
theorem isEmpty_kv{κ:Type}{kvs:List (κ×V)}{vs:List (κ×Value)}(r:KV kvs vs):(!vs.isEmpty)= !kvs.isEmpty:=by
 cases r<;>rfl
theorem isEmpty_of{xs:List V}{its:List Value}(r:Vals xs its):(!its.toArray.isEmpty)= !xs.isEmpty:=by
 cases r<;>simp
theorem line63:(sizeLine:Nat)<2 ^ 63:=by rw[sizeLine_eq];decide
theorem tru_ok:TruR X (fun x H Q=> ∃k,TruV X.K x H k∧Q k H):=by
 intro pins s σ H x v Q I rx h
 obtain⟨k,e,q⟩:=h
 have hl:=line63
 have hs:sizeLine=16777216:=sizeLine_eq
 cases x with
 | non=>
  cases rx
  have e':k=false:=e
  subst e'
  exact truthy_none ⟨H,I,q⟩
 | bl b=>
  cases rx
  have e':k=b:=e
  subst e'
  exact wpAny_truthy_bool ⟨H,I,q⟩
 | int i=>
  obtain⟨t,rfl⟩:=rx
  have e':k=(i != 0):=e
  subst e'
  exact PySem.P.truthy_int ⟨H,I,q⟩
 | str y=>
  obtain⟨t,rfl⟩:=rx
  obtain⟨hy,e'⟩:y.length≤sizeLine∧k=((y.length:Int) != 0):=e
  subst e'
  exact PySem.P.truthy_str (by omega) ⟨H,I.tok _,q⟩
 | byt y=>
  obtain⟨t,rfl⟩:=rx
  obtain⟨hy,e'⟩:y.size≤sizeLine∧k=((y.size:Int) != 0):=e
  subst e'
  exact PySem.W.truthy_bytes (by omega) ⟨H,I.tok _,q⟩
 | ref p=>
  cases rx
  have e':(∃xs,SqL X.K H p xs∧k= !xs.isEmpty)∨(∃xs,SqT X.K H p xs∧k= !xs.isEmpty)∨ ∃kvs,H p=some (.dK kvs)∧k= !kvs.isEmpty:=e
  rcases e' with ⟨xs,hx,e'⟩ | ⟨xs,hx,e'⟩ | ⟨kvs,hx,e'⟩
  ·subst e'
   obtain⟨its,r,pl,hz⟩:=I.list hx
   have hlen:=r.length
   exact wpAny_truthy_list pl.isList (by simp only[List.size_toArray];omega) ⟨H,I.tok _,by rw[isEmpty_of r];exact q⟩
  ·subst e'
   obtain⟨its,r,pl,hz⟩:=I.tuple hx
   have hlen:=r.length
   exact truthy_tuple pl (by simp only[List.size_toArray];omega) ⟨H,I.tok _,by rw[isEmpty_of r];exact q⟩
  ·subst e'
   obtain⟨hz,hS,vs,r,m⟩:kvs.length≤sizeLine∧(p==sysModules)=false∧ ∃vs,KV kvs vs∧s.heap.DictOf (mixKind X.prog X.w) p vs:=I.hok p _ hx
   have hlen:kvs.length=vs.length:=Paired.length r
   exact wpAny_truthy_dict hS m (by omega) ⟨H,I.tok _,by rw[isEmpty_kv r];exact q⟩
 | _=>exact(show False from e).elim
theorem pt_truth(ha:PE X a ta)(he: ∀whole,isTrue a X.env whole=(do let v ←whole;standAt a.pos;holding [v] (truthy v))):
  PT X a (fun σ H Q=>ta σ H fun x H'=> ∃k,TruV X.K x H' k∧Q k H'):=by
 intro pins s σ H Q I h
 exact isTrue_plain (thn (ha pins s σ H _ I h) fun v s1 ⟨x,H1,I1,r1,q1⟩=>tru_ok pins s1 σ H1 x v Q I1 r1 q1) (he _)
theorem vals1{x:V}{us:List Value}(r:Vals [x] us): ∃u,us=[u]∧RelV x u:=by
 cases r with
 | cons r1 r2=>cases r2;exact⟨_,rfl,r1⟩
theorem vals2{x y:V}{us:List Value}(r:Vals [x,y] us): ∃u w',us=[u,w']∧RelV x u∧RelV y w':=by
 cases r with
 | cons r1 r2=>
  cases r2 with
  | cons r3 r4=>cases r4;exact⟨_,_,rfl,r1,r3⟩
theorem call_max2(hc:X.calm=true):CallR X (.builtin "max") (fun xs H Q=> ∃i j,xs=[.int i,.int j]∧Q (.int (if j>i then j else i)) H):=by
 intro pins s σ H xs us Q I r h
 obtain⟨i,j,rfl,q⟩:=h
 obtain⟨u,w',rfl,⟨t,rfl⟩,⟨t',rfl⟩⟩:=vals2 r
 refine max_two_ints (I.ok.hd hc) fun h' tk k=>⟨_,H,I.kept k,?_,q⟩
 by_cases hj:j>i
 ·rw[if_pos hj,if_pos hj];exact⟨_,rfl⟩
 ·rw[if_neg hj,if_neg hj];exact⟨_,rfl⟩
end
structure ObjM(h:Heap)(x dx C:Addr)(mA:Str→Option Value):Prop where
 obj:h.get? x=some (PySem.W.instObj C dx)
 ns:h.Ns1 dx mA
 ne:dx≠x
theorem lookIn_ns{h:Heap}{dx:Addr}{mA:Str→Option Value}(n:h.Ns1 dx mA): ∃od,h.get? dx=some od∧ ∀name,PySem.W.lookIn name od=some (mA name):=by
 obtain⟨o,es,ep,ho,hd,hk,_,hm⟩:=n
 refine⟨o,ho,fun name=>?_⟩
 have e:=hm name
 unfold nsFind findBy at e
 rw[←Array.find?_toList]at e
 unfold PySem.W.lookIn
 rw[hd]
 dsimp only
 split
 ·rename_i y q
  rw[q]at e
  exact congrArg some e
 ·rename_i q
  rw[q]at e
  have a:es.toList.any (·.refKey)=false:=by
   rw[List.any_eq_false]
   intro y hy
   obtain⟨z,t,hkey⟩:=hk y (Array.mem_toList_iff.mp hy)
   simp[DictEntry.refKey,hkey]
  have a': ¬es.toList.any (·.refKey)=true:=by rw[a];exact Bool.false_ne_true
  rw[if_neg a']
  exact congrArg some e
theorem ObjM.look{h:Heap}{x dx C:Addr}{mA:Str→Option Value}(I:ObjM h x dx C mA): ∃od,PySem.W.InstAt h x (PySem.W.instObj C dx) C (some od)∧ ∀name,PySem.W.lookIn name od=some (mA name):=
 let ⟨od,ho,hl⟩:=lookIn_ns I.ns
 ⟨od,⟨I.obj,rfl,rfl,ho⟩,hl⟩
section
variable {prog:Program}{w:World}{A:Around}{E:Value→Shared→Prop}{s:Shared}{K:PySem.W.Frag}{x dx C f:Addr}{mA:Str→Option Value}{name:Str}{v:Value}
theorem get_map{expr:Bool}{Q:Value→Shared→Prop}(X:K.In s.heap)(I:ObjM s.heap x dx C mA)(hg:PySem.W.plainGet K C name=true)(hh:PySem.W.hasDictIn K C=true)
  (ha:PySem.W.findIn K (.ref C) name=some none)(hv:mA name=some v)(hv':PySem.W.handedIn v=true)(h:Q v {s with toks:=s.toks+1}):
  wpAny (model prog w) A (getAttr (.ref x) name expr) Q E s:=by
 obtain⟨od,J,hl⟩:=I.look
 exact PySem.W.get_value X J (PySem.W.plainGet_of hg).1 (PySem.W.findObj_own hh ha rfl (by rw[hl,hv])) hv' h
theorem get_meth{pl:Sem Bool}{Q:Value×List Value→Shared→Prop}(X:K.In s.heap)(I:ObjM s.heap x dx C mA)(hg:PySem.W.plainGet K C name=true)
  (hf:PySem.W.findIn K (.ref C) name=some (some (.ref f)))(ht:PySem.W.isFn K (.ref f)=true)(hv:mA name=none)(h:Q (.ref f,[.ref x]) s):
  wpAny (model prog w) A (getMethod (.ref x) name pl) Q E s:=by
 obtain⟨od,J,hl⟩:=I.look
 exact PySem.W.method_fn X J (PySem.W.plainGet_of hg).1 (PySem.W.plainGet_of hg).2 hf (beq_iff_eq.mp ht) (by show(PySem.W.lookIn name od).map (·.isSome)=some false;rw[hl,hv];rfl) h
theorem set_map{ns:List Str}{Q:Unit→Shared→Prop}(X:K.In s.heap)(I:ObjM s.heap x dx C mA)
  (hs:PySem.W.findIn K (.ref C) "__setattr__"=some (some (.builtin "object.__setattr__")))(hp:PySem.W.plainOver K C=true)(ht:PySem.W.takerIn K C name=some none)(hh:PySem.W.hasDictIn K C=true)
  (hw:PySem.Within mA ns)(hsz:ns.length≤sizeLine)
  (h: ∀h',ObjM h' x dx C (fun y=>if y=name then some v else mA y)→Heap.SameBut dx s.heap h'→Q () {s with heap:=h',toks:=s.toks+2}):
  wpAny (model prog w) A (setAttr (.ref x) name v) Q E s:=by
 obtain⟨od,J,hl⟩:=I.look
 refine PySem.W.set_plain X J hs (PySem.W.osa_open (s:={s with toks:=s.toks+1}) (r:=none) X J hp ht fun b=>?_)
 obtain⟨cd,hc,hd'⟩:=PySem.W.any_some hh
 have hx:s.heap.get? x=some ⟨.ref C,some dx,.plain, #[]⟩:=I.obj
 refine wpAny_bind (wpAny_pure (wpAny_bind (wpAny_bind (wpAny_loadPart hx (wpAny_bind (PySem.W.Looks.here (s:={s with toks:=s.toks+1}) (PySem.W.looks_clsIn X hc) ?_))))))
 rw[hd']
 refine wpAny_pure (a:=some dx) (wpAny_bind (wpAny_pure (wpAny_bind ?_)))
 refine wpAny_nsSet1 (s:={s with toks:=s.toks+1}) I.ns fun h' hn2 hs2=>?_
 obtain⟨oD,esD,epD,hoD,hdD,hcD⟩:=hn2.count (PySem.Within.cons name v hw)
 refine wpAny_bind (wpAny_lookBehind hoD (by rw[hdD];exact pastItsLine_dict (Nat.le_trans hcD (by rw[List.length_cons];omega))) ?_)
 exact wpAny_pure (h _ ⟨(hs2.2 _ (Ne.symm I.ne)).trans I.obj,hn2,I.ne⟩ hs2)
theorem make_map{R:Result→Shared→Prop}{vs:List Value}{kw:List (Str×Value)}(X:K.In s.heap)(hm:PySem.W.makesIn K C=true)
  (hi:PySem.W.findIn K (.ref C) "__init__"=some (some (.ref f)))(hf:PySem.W.typeIn K (.ref f)=some (.type "function"))
  (h:codeAny (model prog w) (A.under (.builtin "type.__call__" ⟨.ref C::vs,kw⟩)) (.call (.ref f) ⟨.ref (s.heap.objs.size+1)::vs,kw⟩) (PySem.W.InitBack (s.heap.objs.size+1) R)
   {s with heap:=(s.heap.push PySem.W.emptyDict).push (PySem.W.instObj C s.heap.objs.size)}):
  codeAny (model prog w) A (.call (.ref C) ⟨vs,kw⟩) R s:=by
 obtain⟨hh,g,d,t,os⟩:=s
 exact PySem.W.make_core (PySem.W.makes_of X hm) (PySem.W.looks_findIn X hi) (fun self=>PySem.W.bind_fn X self hf) (.inl rfl) h
end
def putF(f:Str)(v:V):List (Str×V)→List (Str×V)
 | []=>[(f,v)]
 | (g,x)::r=>if g=f then(g,v)::r else(g,x)::putF f v r
theorem lookup_putF(f g:Str)(v:V): ∀fs:List (Str×V),(putF f v fs).lookup g=if g=f then some v else fs.lookup g
 | []=>by
  show List.lookup g [(f,v)]=_
  by_cases h:g=f
  ·have hb:(g==f)=true:=beq_iff_eq.mpr h
   simp only[List.lookup,hb,if_pos h]
  ·have hb:(g==f)=false:=beq_eq_false_iff_ne.mpr h
   simp only[List.lookup,hb,if_neg h]
 | (k,x)::r=>by
  have ih:=lookup_putF f g v r
  rw[show putF f v ((k,x)::r)=(if k=f then(k,v)::r else(k,x)::putF f v r)from rfl]
  by_cases hk:k=f
  ·rw[if_pos hk]
   by_cases h:g=k
   ·have hb:(g==k)=true:=beq_iff_eq.mpr h
    simp only[List.lookup,hb,if_pos (h.trans hk)]
   ·have hb:(g==k)=false:=beq_eq_false_iff_ne.mpr h
    simp only[List.lookup,hb,if_neg (fun e:g=f=>h (e.trans hk.symm))]
  ·rw[if_neg hk]
   by_cases h:g=k
   ·have hb:(g==k)=true:=beq_iff_eq.mpr h
    simp only[List.lookup,hb,if_neg (fun e:g=f=>hk (h.symm.trans e))]
   ·have hb:(g==k)=false:=beq_eq_false_iff_ne.mpr h
    simp only[List.lookup,hb]
    exact ih
theorem keys_putF(f:Str)(v:V): ∀fs:List (Str×V),f∈(putF f v fs).map (·.1)∧ ∀g,g∈fs.map (·.1)→g∈(putF f v fs).map (·.1)
 | []=>⟨by simp[putF],fun g h=>by simp at h⟩
 | (k,x)::r=>by
  obtain⟨i1,i2⟩:=keys_putF f v r
  rw[show putF f v ((k,x)::r)=(if k=f then(k,v)::r else(k,x)::putF f v r)from rfl]
  by_cases hk:k=f
  ·rw[if_pos hk]
   subst hk
   exact⟨by simp,fun g h=>by simpa using h⟩
  ·rw[if_neg hk]
   refine⟨?_,fun g h=>?_⟩
   ·rw[List.map_cons]
    exact List.mem_cons_of_mem _ i1
   ·rw[List.map_cons]at h ⊢
    rcases List.mem_cons.mp h with e | e
    ·exact List.mem_cons.mpr (.inl e)
    ·exact List.mem_cons_of_mem _ (i2 g e)
theorem length_putF(f:Str)(v:V): ∀fs:List (Str×V),(putF f v fs).length ≤fs.length+1
 | []=>by simp[putF]
 | (k,x)::r=>by
  have ih:=length_putF f v r
  rw[show putF f v ((k,x)::r)=(if k=f then(k,v)::r else(k,x)::putF f v r)from rfl]
  by_cases hk:k=f
  ·rw[if_pos hk,List.length_cons,List.length_cons];omega
  ·rw[if_neg hk,List.length_cons,List.length_cons];omega
theorem RelO.some_of{v:V}{o:Option Value}(r:RelO (some v) o): ∃u,o=some u∧RelV v u:=by
 cases o with
 | none=>exact(show False from r).elim
 | some u=>exact⟨u,rfl,r⟩
theorem RelO.none_of{o:Option Value}(r:RelO none o):o=none:=by
 cases o with
 | none=>rfl
 | some u=>exact(show False from r).elim
theorem handed_of{v:V}{u:Value}(r:RelV v u):PySem.W.handedIn u=true:=by
 cases v with
 | non=>cases (show u=Value.none from r);rfl
 | bl b=>cases (show u=Value.bool b from r);rfl
 | int i=>obtain⟨t,e⟩:=(show ∃t,u=Value.int i t from r);cases e;rfl
 | str x=>obtain⟨t,e⟩:=(show ∃t,u=Value.str x t from r);cases e;rfl
 | byt b=>obtain⟨t,e⟩:=(show ∃t,u=Value.bytes b t from r);cases e;rfl
 | flt b=>obtain⟨t,e⟩:=(show ∃t,u=Value.float b t from r);cases e;rfl
 | ref a=>cases (show u=Value.ref a from r);rfl
 | ty n=>cases (show u=Value.type n from r);rfl
section
variable {P:Program}{w:World}{H H':Hp}{h h':Heap}{a C dx:Addr}{fs fs':List (Str×V)}
theorem ins_get(hok:HOk P w H h)(e:H a=some (.ins C dx fs)): ∃mA,ObjM h a dx C mA∧(∀f,RelO (fs.lookup f) (mA f))∧PySem.Within mA (fs.map (·.1))∧fs.length≤1000∧H dx=some (.own a):=by
 obtain⟨d,z,ne,ob,mA,n,r,q⟩:=(show ObjOk P w H h a (.ins C dx fs)from hok a _ e)
 exact⟨mA,⟨ob,n,ne⟩,r,q,z,d⟩
end
structure Cls(K:PySem.W.Frag)(C:Addr):Prop where
 pg:PySem.W.plainGet K C Str.empty=true
 hd:PySem.W.hasDictIn K C=true
 po:PySem.W.plainOver K C=true
 sa:PySem.W.findIn K (.ref C) "__setattr__"=some (some (.builtin "object.__setattr__"))
theorem Cls.get{K:PySem.W.Frag}{C:Addr}(c:Cls K C)(f:Str):PySem.W.plainGet K C f=true:=c.pg
def NoAttr(K:PySem.W.Frag)(C:Addr)(f:Str):Prop:=PySem.W.findIn K (.ref C) f=some none
theorem NoAttr.taker{K:PySem.W.Frag}{C:Addr}{f:Str}(n:NoAttr K C f):PySem.W.takerIn K C f=some none:=by
 unfold PySem.W.takerIn
 rw[show PySem.W.findIn K (.ref C) f=some none from n]
 rfl
structure Meth(K:PySem.W.Frag)(C:Addr)(m:Str)(f:Addr):Prop where
 at_:PySem.W.findIn K (.ref C) m=some (some (.ref f))
 fn:PySem.W.isFn K (.ref f)=true
 kp:PySem.W.keepIn K (.ref f)=true
section
variable {X:Cx}{pins:List (Addr×Obj)}{σ:St}{H:Hp}{s:Shared}{a C dx:Addr}{fs:List (Str×V)}{f:Str}{v:V}{A:Around}{E:Value→Shared→Prop}
theorem getattr_ok{b:Bool}{Q:Value→Shared→Prop}(I:Inv X pins σ H s)(e:H a=some (.ins C dx fs))(c:Cls X.K C)(n:NoAttr X.K C f)(l:fs.lookup f=some v)
  (h: ∀u s',Inv X pins σ H s'→RelV v u→Q u s'):wpAny (model X.prog X.w) A (getAttr (.ref a) f b) Q E s:=by
 obtain⟨mA,O,r,_,_,_⟩:=ins_get I.hok e
 obtain⟨u,hu,ru⟩:=RelO.some_of (v:=v) (o:=mA f) (by rw[←l];exact r f)
 exact get_map I.kIn O (c.get f) c.hd n hu (handed_of ru) (h u _ (I.tok _) ru)
theorem getmeth_ok{m:Str}{g:Addr}{pl:Sem Bool}{Q:Value×List Value→Shared→Prop}(I:Inv X pins σ H s)(e:H a=some (.ins C dx fs))(c:Cls X.K C)(k:Meth X.K C m g)(l:fs.lookup m=none)
  (h:Q (.ref g,[.ref a]) s):wpAny (model X.prog X.w) A (getMethod (.ref a) m pl) Q E s:=by
 obtain⟨mA,O,r,_,_,_⟩:=ins_get I.hok e
 have hn:mA m=none:=RelO.none_of (by rw[←l];exact r m)
 exact get_meth I.kIn O (c.get m) k.at_ k.fn hn h
theorem setattr_ok{y:V}{u:Value}{Q:Unit→Shared→Prop}(I:Inv X pins σ H s)(e:H a=some (.ins C dx fs))(c:Cls X.K C)(n:NoAttr X.K C f)(hl:fs.length<1000)(ry:RelV y u)
  (h: ∀s',Inv X pins σ (upd H a (.ins C dx (putF f y fs))) s'→Q () s'):wpAny (model X.prog X.w) A (setAttr (.ref a) f u) Q E s:=by
 obtain⟨mA,O,r,wi,_,ho⟩:=ins_get I.hok e
 have hz:(fs.map (·.1)).length ≤sizeLine:=by rw[List.length_map,sizeLine_eq];omega
 refine set_map I.kIn O c.sa c.po n.taker c.hd wi hz fun h' O' sb=>h _ ?_
 have hd: ∃o,h'.get? dx=some o:=let ⟨o,_,_,e',_⟩:=O'.ns;⟨o,e'⟩
 refine I.write (x:=a) (e:=dx) (by rw[e];exact True.intro) (.inr ho) (fun b q hb z=>(sb.2 b hb).trans z) hd ?_
 refine⟨by rw[upd_ne O.ne];exact ho,?_,O.ne,O'.obj,_,O'.ns,fun g=>?_,fun g hg=>?_⟩
 ·have:=length_putF f y fs;omega
 ·show RelO ((putF f y fs).lookup g) (if g=f then some u else mA g)
  rw[lookup_putF]
  by_cases q:g=f
  ·rw[if_pos q,if_pos q];exact ry
  ·rw[if_neg q,if_neg q];exact r g
 ·by_cases q:g=f
  ·rw[q];exact(keys_putF f y fs).1
  ·refine(keys_putF f y fs).2 g (wi g fun z=>hg ?_)
   show(if g=f then some u else mA g)=none
   rw[if_neg q];exact z
theorem Inv.made(I:Inv X pins σ H s):Inv X pins σ (upd (upd H s.heap.objs.size (.own (s.heap.objs.size+1))) (s.heap.objs.size+1) (.ins C s.heap.objs.size []))
  {s with heap:=(s.heap.push PySem.W.emptyDict).push (PySem.W.instObj C s.heap.objs.size)}:=by
 have e1:(s.heap.push PySem.W.emptyDict).get? s.heap.objs.size=some PySem.W.emptyDict:=Heap.get?_push_size s.heap rfl
 have e2:((s.heap.push PySem.W.emptyDict).push (PySem.W.instObj C s.heap.objs.size)).get? (s.heap.objs.size+1)=some (PySem.W.instObj C s.heap.objs.size):=by
  have:=Heap.get?_push_size (s.heap.push PySem.W.emptyDict) (o:=PySem.W.instObj C s.heap.objs.size) rfl
  rwa [Heap.size_push]at this
 have e3:(s.heap.push PySem.W.emptyDict).Ns s.heap.objs.size (fun _=>none):=⟨PySem.W.emptyDict, #[],_,e1,rfl,(fun e he=>absurd he (by simp)),fun _=>rfl⟩
 have I1:=I.laid (a:=s.heap.objs.size) (o:= .own (s.heap.objs.size+1)) (h':=s.heap.push PySem.W.emptyDict) (t':=s.toks) (fun b u q=>Heap.get?_push_of_some _ q) (Nat.le_refl _) ⟨_,e1⟩
 refine I1.laid (a:=s.heap.objs.size+1) (o:= .ins C s.heap.objs.size []) (t':=s.toks) (fun b u q=>Heap.get?_push_of_some _ q) (Nat.le_of_eq (Heap.size_push _ _)) ?_
 have ne:s.heap.objs.size≠s.heap.objs.size+1:=Nat.ne_of_lt (Nat.lt_succ_self _)
 refine⟨by rw[upd_ne ne,upd_same],Nat.zero_le _,ne,e2,fun _=>none,(Heap.Ns1.of_empty e3).at fun o q=>Heap.get?_push_of_some _ q,fun _=>True.intro,fun y hy=>absurd rfl hy⟩
theorem attr_of{prog:Program}{w:World}{env:Env}{e:Expr}{f:Str}{pos:Pos}{s:Shared}{Q:Value→Shared→Prop}(hb:attributeBase e f env (eval e env)=eval e env)
  (h:wpAny (model prog w) A (eval e env) (fun o s₁=>wpAny (model prog w) A (getAttr o f true) Q E s₁) E s):wpAny (model prog w) A (eval (.Attribute e f pos) env) Q E s:=
 Attribute_any_ h (by rw[arm_eval_Attribute,hb])
end
inductive FldQ(K:PySem.W.Frag)(f:Str)(Q:VK)(x:V)(H:Hp):Prop
 | mk (a C dx:Addr) (fs:List (Str×V)) (v:V) (_:x= .ref a) (_:H a=some (.ins C dx fs)) (_:Cls K C) (_:NoAttr K C f) (_:fs.lookup f=some v) (_:Q v H)
def tFld(K:PySem.W.Frag)(ta:TE)(f:Str):TE:=fun σ H Q=>ta σ H (FldQ K f Q)
inductive SetQ(K:PySem.W.Frag)(f:Str)(y:V)(N:Hp→Prop)(x:V)(H:Hp):Prop
 | mk (a C dx:Addr) (fs:List (Str×V)) (_:x= .ref a) (_:H a=some (.ins C dx fs)) (_:Cls K C) (_:NoAttr K C f) (_:fs.length<1000) (_:N (upd H a (.ins C dx (putF f y fs))))
def sFld(K:PySem.W.Frag)(ta tv:TE)(f:Str):TS:=fun D σ H=>tv σ H fun y H1=>ta σ H1 (SetQ K f y (D.nx σ))
def InOp(X:Cx)(op:Operator)(rd:V→V→Hp→VK→Prop):Prop:=
 ∀(pins:List (Addr×Obj)) (s:Shared) (σ:St) (H:Hp) (x y:V) (u v:Value) (Q:VK),Inv X pins σ H s→RelV x u→RelV y v→rd x y H Q→wpAny (model X.prog X.w) X.A (inplaceOp op u v) (EP X pins σ Q) X.xe s
def sFldAug(K:PySem.W.Frag)(ta tv:TE)(rd:V→V→Hp→VK→Prop)(f:Str):TS:=fun D σ H=>ta σ H fun x H1=> ∃a C dx fs v,x= .ref a∧H1 a=some (.ins C dx fs)∧Cls K C∧NoAttr K C f∧fs.lookup f=some v∧
 tv σ H1 fun y H2=>rd v y H2 fun z H3=> ∃dx' fs',H3 a=some (.ins C dx' fs')∧fs'.length<1000∧D.nx σ (upd H3 a (.ins C dx' (putF f z fs')))
section
variable {X:Cx}{o e value:Expr}{f:Str}{pos pos' tpos:Pos}{ta tv:TE}
theorem pe_fld(he:PE X e ta)(hb:attributeBase e f X.env (eval e X.env)=eval e X.env):PE X (.Attribute e f pos) (tFld X.K ta f):=by
 intro pins s σ H Q I h
 refine attr_of hb (thn (he pins s σ H _ I h) fun u s1 ⟨x,H1,I1,rx,a,C,dx,fs,v,ex,ea,c,n,l,q⟩=>?_)
 subst ex
 obtain rfl:u=Value.ref a:=rx
 exact getattr_ok I1 ea c n l fun u' s2 I2 ru=>⟨v,H1,I2,ru,q⟩
theorem ps_fld(ha:PE X o ta)(hv:PE X value tv)(hs:swapsWith value (some (.Attribute o f pos')) pos.line X.env=pure false):PS X (.Assign [.Attribute o f pos'] value pos) (sFld X.K ta tv f):=by
 intro pins s σ H D I h
 refine plainObj_wpAny_Assign_Attribute (thn (hv pins s σ H _ I h) fun u s1 ⟨y,H1,I1,ry,q⟩=>thn (ha pins s1 σ H1 _ I1 q) fun ov s2 ⟨x,H2,I2,rx,a,C,dx,fs,ex,ea,c,n,l,q2⟩=>?_) hs
 subst ex
 obtain rfl:ov=Value.ref a:=rx
 exact setattr_ok I2 ea c n l ry fun s3 I3=>⟨σ,_,I3,q2⟩
theorem ps_fldaug{op:Operator}{rd:V→V→Hp→VK→Prop}(ha:PE X o ta)(hv:PE X value tv)(hop:InOp X op rd):PS X (.AugAssign (.Attribute o f tpos) op value pos) (sFldAug X.K ta tv rd f):=by
 intro pins s σ H D I h
 refine wpAny_AugAssign_AttributeAny (thn (ha pins s σ H _ I h) fun ov s1 ⟨x,H1,I1,rx,a,C,dx,fs,v,ex,ea,c,n,l,q⟩=>?_)
 subst ex
 obtain rfl:ov=Value.ref a:=rx
 refine getattr_ok I1 ea c n l fun u s2 I2 ru=>thn (hv pins s2 σ H1 _ I2 q) fun w3 s3 ⟨y,H2,I3,ry,q3⟩=>thn (hop pins s3 σ H2 v y u w3 _ I3 ru ry q3) fun w4 s4 ⟨z,H3,I4,rz,dx',fs',ea',l',q4⟩=>?_
 exact setattr_ok I4 ea' c n l' rz fun s5 I5=>⟨σ,_,I5,q4⟩
def rAdd:V→V→Hp→VK→Prop:=fun x y H Q=> ∃i j,x= .int i∧y= .int j∧Q (.int (i+j)) H
theorem in_add:InOp X .Add rAdd:=by
 rintro pins s σ H x y u v Q I rx ry ⟨i,j,rfl,rfl,q⟩
 obtain⟨t,rfl⟩:=(show ∃t,u=Value.int i t from rx)
 obtain⟨t',rfl⟩:=(show ∃t',v=Value.int j t' from ry)
 exact PyProof.Rows.iadd_int ⟨.int (i+j),H,I.tok _,⟨_,rfl⟩,q⟩
end
structure Room(k:Nat)(A:Around):Prop where
 hd:A.handled=none
 dp:A.depth+3*k+5<recursionLimit
 un:A.units+16*k+200<cLine
theorem Room.mono{j k:Nat}{A:Around}(r:Room k A)(h:j≤k):Room j A:=⟨r.hd,by have:=r.dp;omega,by have:=r.un;omega⟩
theorem Room.deeper{k:Nat}{A:Around}(r:Room (k+1) A)(env:Env):Room k (A.deeper env):=
 ⟨r.hd,by have:=r.dp;show A.depth+1+3*k+5<_;omega,by have:=r.un;show A.units+3+16*k+200<_;omega⟩
theorem Room.in1{k:Nat}{A:Around}(r:Room (k+1) A):Room k A.in1:=
 ⟨r.hd,by have:=r.dp;show A.depth+3*k+5<_;omega,by have:=r.un;show A.units+1+16*k+200<_;omega⟩
theorem make_depth{A:Around}{C:Addr}{us:List Value}{kw:List (Str×Value)}:(A.under (.builtin "type.__call__" ⟨.ref C::us,kw⟩)).depth =A.depth+1:=by
 first | rfl | simp[Around.under,Code.weight,Code.isCreation,Code.isGuard,Code.isCaller,Code.frames,Code.isFrame,guardIds]
theorem make_units{A:Around}{C:Addr}{us:List Value}{kw:List (Str×Value)}:(A.under (.builtin "type.__call__" ⟨.ref C::us,kw⟩)).units =A.units+1:=by
 first | rfl | simp[Around.under,Code.cUnits,Code.frames,Code.isFrame]
theorem Room.make{k:Nat}{A:Around}(r:Room (k+1) A)(C:Addr)(us:List Value)(kw:List (Str×Value)):Room k (A.under (.builtin "type.__call__" ⟨.ref C::us,kw⟩)):=
 ⟨r.hd,by have:=r.dp;rw[make_depth];omega,by have:=r.un;rw[make_units];omega⟩
theorem Room.depth{k:Nat}{A:Around}(r:Room k A):A.depth<recursionLimit:=by have:=r.dp;omega
def tNil:TA:=fun _ H Q=>Q [] H
def tCons(ta:TE)(tr:TA):TA:=fun σ H Q=>ta σ H fun x H1=>tr σ H1 fun xs H2=>Q (x::xs) H2
section
variable {X:Cx}{e:Expr}{es:List Expr}{te:TE}{t:TA}{pos:Pos}
theorem pa_nil:PA X [] tNil:=fun _ _ _ _ H Q I h=>Calls.spliced_nil ⟨[],H,I,.nil,h⟩
theorem pa_cons(ha:PE X e te)(hr:PA X es t)(hs:starEach (e::es) X.env=(false,eval e X.env)::starEach es X.env:=by rfl):PA X (e::es) (tCons te t):=by
 intro pos pins s σ H Q I h
 rw[hs]
 show wpAny _ _ (spliced ((false,eval e X.env)::backTo pos (starEach es X.env))) _ _ s
 refine Calls.spliced_cons (thn (ha pins s σ H _ I h) fun u s1 ⟨x,H1,I1,r1,q1⟩=>?_)
 exact thn (hr pos pins s1 σ H1 _ I1 q1) fun us s2 ⟨xs,H2,I2,r2,q2⟩=>⟨x::xs,H2,I2,.cons r1 r2,q2⟩
def tLst(t:TA):TE:=fun σ H Q=>t σ H fun xs H1=>xs.length≤sizeLine∧ ∀p,H1 p=none→Q (.ref p) (upd H1 p (.lst xs))
theorem pe_lst(h:PA X es t):PE X (.List es pos) (tLst t):=by
 intro pins s σ H Q I hq
 refine wpAny_List_spliced (thn (h pos pins s σ H _ I hq) fun us s1 ⟨xs,H1,I1,r,z,q⟩=>⟨by rw[←r.length];exact z,?_⟩)
 have hf:H1 s1.heap.objs.size=none:=I1.hok.fresh (Nat.le_refl _)
 refine⟨.ref s1.heap.objs.size,upd H1 s1.heap.objs.size (.lst xs),I1.laid (t':=s1.toks) (fun b u e=>Heap.get?_push_of_some _ e) (Nat.le_refl _) ?_,rfl,q _ hf⟩
 exact⟨z,us,0,r,Heap.get?_push_size _ rfl⟩
end
abbrev Sp:=List V→Hp→VK→XK→Prop
abbrev CXT:=List Env→Hp→Shared→XK→Value→Shared→Prop
structure Env0(P:Program)(w:World)(K:PySem.W.Frag)(mg:Str→Option Value)(base:Heap)(A:Around)(outer:List Env)(s:Shared)(H:Hp):Prop where
 frames:A.frames=some outer
 mod:Mod K mg base
 bs: ∀b o,base.get? b=some o→s.heap.get? b=some o∧H b=none
 bsz:base.objs.size≤s.heap.objs.size
 funs:s.heap.FunFrames base outer
 frf: ∀b∈frs outer,H b=none
 hok:HOk P w H s.heap
 bare:AllBare s.gens
def CE(outer:List Env)(P:Program)(w:World)(H:Hp)(s:Shared)(Q:VK)(u:Value)(s':Shared):Prop:=
 ∃v H',s'.os=s.os∧AllBare s'.gens∧Un (frs outer) [] H H' s.heap s'.heap∧HOk P w H' s'.heap∧RelV v u∧Q v H'
def CR(CX:CXT)(outer:List Env)(P:Program)(w:World)(H:Hp)(s:Shared)(Q:VK)(E:XK)(r:Result)(s':Shared):Prop:=
 match r with
 | .ok (.ret u)=>CE outer P w H s Q u s'
 | .ok _=>False
 | .error e=>CX outer H s E e s'
structure FnOk(P:Program)(w:World)(K:PySem.W.Frag)(mg:Str→Option Value)(base:Heap)(CX:CXT)(k:Nat)(f:Addr)(fd:FuncData)(ps:List Str)(sp:Sp):Prop where
 len: ∀vs H Q E,sp vs H Q E→vs.length=ps.length
 run: ∀(A:Around) (outer:List Env) (s:Shared) (H:Hp) (args:Args) (us:List Value) (vs:List V) (Q:VK) (E:XK),Room k A→Env0 P w K mg base A outer s H→BindsTo s fd args (ps.zip us)→Vals vs us→sp vs H Q E→
  codeAny (model P w) A (.call (.ref f) args) (CR CX outer P w H s Q E) s
theorem FnOk.mono{P:Program}{w:World}{K:PySem.W.Frag}{mg:Str→Option Value}{base:Heap}{CX:CXT}{j k:Nat}{f:Addr}{fd:FuncData}{ps:List Str}{sp:Sp}(F:FnOk P w K mg base CX j f fd ps sp)(h:j≤k):
  FnOk P w K mg base CX k f fd ps sp:=⟨F.len,fun A outer s H args us vs Q E hr=>F.run A outer s H args us vs Q E (hr.mono h)⟩
theorem FnOk.imp{P:Program}{w:World}{K:PySem.W.Frag}{mg:Str→Option Value}{base:Heap}{CX:CXT}{k:Nat}{f:Addr}{fd:FuncData}{ps:List Str}{sp sp':Sp}(F:FnOk P w K mg base CX k f fd ps sp)
  (h: ∀vs H Q E,sp' vs H Q E→sp vs H Q E):FnOk P w K mg base CX k f fd ps sp':=
 ⟨fun vs H Q E q=>F.len vs H Q E (h _ _ _ _ q),fun A outer s H args us vs Q E hr he hb hv hs=>F.run A outer s H args us vs Q E hr he hb hv (h _ _ _ _ hs)⟩
theorem Env0.make{P:Program}{w:World}{K:PySem.W.Frag}{mg:Str→Option Value}{base:Heap}{A:Around}{outer:List Env}{s:Shared}{H:Hp}(e:Env0 P w K mg base A outer s H)(C:Addr)(us:List Value)(kw:List (Str×Value)):
  Env0 P w K mg base (A.under (.builtin "type.__call__" ⟨.ref C::us,kw⟩)) outer s H:=⟨by first | exact e.frames | (simpa [Around.under,Code.envs,Code.isFrame,pushEnvs] using e.frames),e.mod,e.bs,e.bsz,e.funs,e.frf,e.hok,e.bare⟩
theorem Env0.in1{P:Program}{w:World}{K:PySem.W.Frag}{mg:Str→Option Value}{base:Heap}{A:Around}{outer:List Env}{s:Shared}{H:Hp}(e:Env0 P w K mg base A outer s H):
  Env0 P w K mg base A.in1 outer s H:=⟨e.frames,e.mod,e.bs,e.bsz,e.funs,e.frf,e.hok,e.bare⟩
section
variable {X:Cx}{pins:List (Addr×Obj)}{σ:St}{H:Hp}{s s':Shared}
theorem Inv.env0(I:Inv X pins σ H s):Env0 X.prog X.w X.K X.mg X.base X.A X.stack s H:=
 ⟨I.ok.frames,I.ok.mod,I.bs,Nat.le_trans I.ok.bsz I.sz,I.stack,I.stkFree,I.hok,I.bare⟩
theorem Inv.after{Q:VK}{u:Value}(I:Inv X pins σ H s)(h:CE X.stack X.prog X.w H s Q u s'):EP X pins σ Q u s':=by
 obtain⟨v,H',os,bare,un,hok,r,q⟩:=h
 obtain⟨hh,g,d,t,os'⟩:=s'
 obtain rfl:os'=s.os:=os
 exact⟨v,H',I.call (h':=hh) (g':=g) (d':=d) (t':=t) (ch:=[]) un hok bare (fun b z=>absurd z (by simp)),r,q⟩
end
def tCall(sp:Sp)(dvs:List V)(E:XK)(t:TA):TE:=fun σ H Q=>t σ H fun vs H1=>sp (vs++dvs) H1 Q E
inductive MethQ(C:Addr)(m:Str)(x:V)(H:Hp)(R:Prop):Prop
 | mk (a dx:Addr) (fs:List (Str×V)) (_:x= .ref a) (_:H a=some (.ins C dx fs)) (_:fs.lookup m=none) (_:R)
def tMeth(C:Addr)(m:Str)(sp:Sp)(dvs:List V)(E:XK)(ta:TE)(t:TA):TE:=fun σ H Q=>ta σ H fun x H1=>MethQ C m x H1 (t σ H1 fun vs H2=>sp (x::(vs++dvs)) H2 Q E)
def tMake(C:Addr)(sp:Sp)(dvs:List V)(E:XK)(t:TA):TE:=fun σ H Q=>t σ H fun vs H1=> ∀x dx,H1 x=none→H1 dx=none→dx≠x→
 sp (.ref x::(vs++dvs)) (upd (upd H1 dx (.own x)) x (.ins C dx [])) (fun v H2=>v= .non ∧Q (.ref x) H2) E
def Binds(K:PySem.W.Frag)(fd:FuncData)(ps:List Str)(ds:List Value):Prop:=
 ∀(s:Shared) (us:List Value),K.In s.heap→(us++ds).length =ps.length→BindsTo s fd ⟨us,[]⟩ (ps.zip (us++ds))
theorem Binds.all{K:PySem.W.Frag}{fd:FuncData}{ps:List Str}(h: ∀us:List Value,us.length=ps.length→bindArgs fd ⟨us,[]⟩=pure (ps.zip us)):Binds K fd ps []:=fun s us _ hl=>by
 rw[List.append_nil]at hl ⊢
 exact .of_eq (h us hl)
def Passes(CX:CXT)(X:Cx)(E:XK):Prop:= ∀(pins:List (Addr×Obj)) (σ:St) (H:Hp) (s:Shared) (e:Value) (s':Shared),Inv X pins σ H s→CX X.stack H s E e s'→X.xe e s'
section
variable {X:Cx}{CX:CXT}{k:Nat}{f C:Addr}{fd:FuncData}{ps:List Str}{sp:Sp}{dvs:List V}{ds:List Value}{E:XK}{x m:Str}{p pos apos:Pos}{e o:Expr}{es:List Expr}{ta:TE}{t:TA}
theorem run_fn{pins:List (Addr×Obj)}{σ:St}{H:Hp}{s:Shared}{Q:VK}{us:List Value}{vs:List V}(F:FnOk X.prog X.w X.K X.mg X.base CX k f fd ps sp)(hr:Room k X.A)(hb:Binds X.K fd ps ds)(hd:Vals dvs ds)(hx:Passes CX X E)
  (I:Inv X pins σ H s)(r:Vals vs us)(h:sp (vs++dvs) H Q E):wpAny (model X.prog X.w) X.A (call (.ref f) us) (EP X pins σ Q) X.xe s:=by
 have r2:Vals (vs++dvs) (us++ds):=r.append hd
 have hl:(us++ds).length =ps.length:=by rw[←r2.length];exact F.len _ _ _ _ h
 refine wpAny_call (codeAny_mono (F.run X.A X.stack s H ⟨us,[]⟩ (us++ds) (vs++dvs) Q E hr I.env0 (hb s us I.kIn hl) r2 h) fun r s' hq=>?_)
 cases r with
 | error e=>exact hx pins σ H s e s' I hq
 | ok fl=>
  cases fl with
  | ret u=>exact I.after hq
  | next=>exact False.elim hq
  | brk=>exact False.elim hq
  | cont=>exact False.elim hq
theorem pe_call(F:FnOk X.prog X.w X.K X.mg X.base CX k f fd ps sp)(hr:Room k X.A)(hg:Gl X x)(hm:X.mg x=some (.ref f))(hk:PySem.W.keepIn X.K (.ref f)=true)(hb:Binds X.K fd ps ds)(hd:Vals dvs ds)(hx:Passes CX X E)
  (ha:PA X (e::es) t)(hdb:(x==("__debug__":Str))=false:=by decide)(he:starEach (e::es) X.env=(false,eval e X.env)::starEach es X.env:=by rfl)(hpl:(backTo pos (starEach es X.env)).any (·.1)=false:=by rfl):
  PE X (.Call (.Name x p) (e::es) [] pos) (tCall sp dvs E t):=by
 intro pins s σ H Q I h
 refine wpAny_Call_Name_kw (ld_glob I hg hm ?_ hdb)
 refine PySem.W.callWith_K (h₀:=X.base) I.ok.mod.kin hk (thn (ha pos pins s σ H _ I h) fun us s1 ⟨vs,H1,I1,r,q⟩=>⟨I1.kIn,?_⟩) he hpl
 exact run_fn F hr hb hd hx I1 r q
theorem pe_meth{pl:Sem Bool}(he:PE X o ta)(c:Cls X.K C)(hm:Meth X.K C m f)(F:FnOk X.prog X.w X.K X.mg X.base CX k f fd ps sp)(hr:Room k X.A)(hb:Binds X.K fd ps ds)(hd:Vals dvs ds)(hx:Passes CX X E)(ha:PA X (e::es) t)
  (hst:starEach (e::es) X.env=(false,eval e X.env)::starEach es X.env:=by rfl)(hpl:(backTo pos (starEach es X.env)).any (·.1)=false:=by rfl)
  (ht:eval (.Call (.Attribute o m apos) (e::es) [] pos) X.env=(do
   let ov ←eval o X.env
   standAt apos.atName
   let (f,first) ←holding [ov] (getMethod ov m pl)
   callWith pos f first (backTo pos (starEach (e::es) X.env)) (backToKw pos (keywordEach [] X.env))):=by rfl):
  PE X (.Call (.Attribute o m apos) (e::es) [] pos) (tMeth C m sp dvs E ta t):=by
 intro pins s σ H Q I h
 refine PySem.W.methodCall_KW (pl:=pl) (thn (he pins s σ H _ I h) fun u s1 ⟨x,H1,I1,rx,a,dx,fs,ex,ea,l,q⟩=>?_) ht
 subst ex
 obtain rfl:u=Value.ref a:=rx
 refine getmeth_ok I1 ea c hm l ?_
 refine PySem.W.callWith_K (first:=[.ref a]) (h₀:=X.base) I.ok.mod.kin hm.kp (thn (ha pos pins s1 σ H1 _ I1 q) fun us s2 ⟨vs,H2,I2,r,q2⟩=>⟨I2.kIn,?_⟩) hst hpl
 exact run_fn (us:= .ref a::us) (vs:= .ref a::vs) F hr hb hd hx I2 (.cons rfl r) q2
theorem pe_meth0{pl:Sem Bool}(he:PE X o ta)(c:Cls X.K C)(hm:Meth X.K C m f)(F:FnOk X.prog X.w X.K X.mg X.base CX k f fd ps sp)(hr:Room k X.A)(hb:Binds X.K fd ps ds)(hd:Vals dvs ds)(hx:Passes CX X E)
  (ht:eval (.Call (.Attribute o m apos) [] [] pos) X.env=(do
   let ov ←eval o X.env
   standAt apos.atName
   let (f,first) ←holding [ov] (getMethod ov m pl)
   callWith pos f first (backTo pos (starEach [] X.env)) (backToKw pos (keywordEach [] X.env))):=by rfl):
  PE X (.Call (.Attribute o m apos) [] [] pos) (tMeth C m sp dvs E ta tNil):=by
 intro pins s σ H Q I h
 refine PySem.W.methodCall_KW (pl:=pl) (thn (he pins s σ H _ I h) fun u s1 ⟨x,H1,I1,rx,a,dx,fs,ex,ea,l,q⟩=>?_) ht
 subst ex
 obtain rfl:u=Value.ref a:=rx
 refine getmeth_ok I1 ea c hm l ?_
 exact PySem.W.callWith_K0 (first:=[.ref a]) I1.kIn hm.kp (run_fn (us:=[.ref a]) (vs:=[.ref a]) F hr hb hd hx I1 (.cons rfl .nil) q)
structure Mk(K:PySem.W.Frag)(C f:Addr):Prop where
 makes:PySem.W.makesIn K C=true
 init:PySem.W.findIn K (.ref C) "__init__"=some (some (.ref f))
 fn:PySem.W.isFn K (.ref f)=true
 kp:PySem.W.keepIn K (.ref C)=true
theorem run_make{pins:List (Addr×Obj)}{σ:St}{H:Hp}{s:Shared}{Q:VK}{us:List Value}{vs:List V}(M:Mk X.K C f)(F:FnOk X.prog X.w X.K X.mg X.base CX k f fd ps sp)(hr:Room (k+1) X.A)(hb:Binds X.K fd ps ds)(hd:Vals dvs ds)
  (hx:Passes CX X E)(I:Inv X pins σ H s)(r:Vals vs us)
  (h: ∀x dx,H x=none→H dx=none→dx≠x→sp (.ref x::(vs++dvs)) (upd (upd H dx (.own x)) x (.ins C dx [])) (fun v H2=>v= .non ∧Q (.ref x) H2) E):
  wpAny (model X.prog X.w) X.A (call (.ref C) us) (EP X pins σ Q) X.xe s:=by
 have hq:=h (s.heap.objs.size+1) s.heap.objs.size (I.hok.fresh (Nat.le_succ _)) (I.hok.fresh (Nat.le_refl _)) (Nat.ne_of_lt (Nat.lt_succ_self _))
 have I2:=Inv.made (C:=C) I
 have r2:Vals (V.ref (s.heap.objs.size+1)::(vs++dvs)) (Value.ref (s.heap.objs.size+1)::(us++ds)):= .cons rfl (r.append hd)
 have hl:(Value.ref (s.heap.objs.size+1)::us++ds).length =ps.length:=by
  have e:=r2.length
  rw[F.len _ _ _ _ hq]at e
  exact e.symm
 refine wpAny_call (make_map (f:=f) I.kIn M.makes M.init (beq_iff_eq.mp M.fn) (codeAny_mono (F.run _ X.stack _ _ ⟨Value.ref (s.heap.objs.size+1)::us,[]⟩ (Value.ref (s.heap.objs.size+1)::(us++ds)) _ _ E (hr.make C us [])
  (I2.env0.make C us []) (hb _ (Value.ref (s.heap.objs.size+1)::us) I2.kIn hl) r2 hq) fun r s' hq'=>?_))
 cases r with
 | error e=>exact hx pins σ _ _ e s' I2 hq'
 | ok fl=>
  cases fl with
  | ret u=>
   obtain⟨v,H',I3,rv,ev,q3⟩:=I2.after hq'
   subst ev
   exact⟨rv,⟨V.ref (s.heap.objs.size+1),H',I3,rfl,q3⟩⟩
  | next=>exact False.elim hq'
  | brk=>exact False.elim hq'
  | cont=>exact False.elim hq'
theorem pe_make(M:Mk X.K C f)(F:FnOk X.prog X.w X.K X.mg X.base CX k f fd ps sp)(hr:Room (k+1) X.A)(hg:Gl X x)(hm:X.mg x=some (.ref C))(hb:Binds X.K fd ps ds)(hd:Vals dvs ds)(hx:Passes CX X E)
  (ha:PA X (e::es) t)(hdb:(x==("__debug__":Str))=false:=by decide)(he:starEach (e::es) X.env=(false,eval e X.env)::starEach es X.env:=by rfl)(hpl:(backTo pos (starEach es X.env)).any (·.1)=false:=by rfl):
  PE X (.Call (.Name x p) (e::es) [] pos) (tMake C sp dvs E t):=by
 intro pins s σ H Q I h
 refine wpAny_Call_Name_kw (ld_glob I hg hm ?_ hdb)
 refine PySem.W.callWith_K (h₀:=X.base) I.ok.mod.kin M.kp (thn (ha pos pins s σ H _ I h) fun us s1 ⟨vs,H1,I1,r,q⟩=>⟨I1.kIn,?_⟩) he hpl
 exact run_make M F hr hb hd hx I1 r q
theorem pe_make0(M:Mk X.K C f)(F:FnOk X.prog X.w X.K X.mg X.base CX k f fd ps sp)(hr:Room (k+1) X.A)(hg:Gl X x)(hm:X.mg x=some (.ref C))(hb:Binds X.K fd ps ds)(hd:Vals dvs ds)(hx:Passes CX X E)
  (hdb:(x==("__debug__":Str))=false:=by decide):PE X (.Call (.Name x p) [] [] pos) (tMake C sp dvs E tNil):=by
 intro pins s σ H Q I h
 refine wpAny_Call_Name_kw (ld_glob I hg hm ?_ hdb)
 exact PySem.W.callWith_K0 I.kIn M.kp (run_make (us:=[]) M F hr hb hd hx I .nil h)
end
def PK(X:Cx)(kws:List Keyword)(t:TA):Prop:=
 ∀(pos:Pos) (pins:List (Addr×Obj)) (s:Shared) (σ:St) (H:Hp) (Q:List V→Hp→Prop),Inv X pins σ H s→t σ H Q→wpAny (model X.prog X.w) X.A (evalAll ((backToKw pos (keywordEach kws X.env)).map (·.2))) (AP X pins σ Q) X.xe s
section
variable {X:Cx}{CX:CXT}{k:Nat}{f C:Addr}{fd:FuncData}{ps ks:List Str}{sp:Sp}{E:XK}{x m:Str}{p pos apos kpos:Pos}{e o:Expr}{es:List Expr}{kws:List Keyword}{te ta:TE}{t tk:TA}{nm:Option Str}
theorem pk_nil:PK X [] tNil:=fun _ _ _ _ H Q I h=>wpAny_evalAll_nil ⟨[],H,I,.nil,h⟩
theorem pk_cons(ha:PE X e te)(hr:PK X kws t):PK X (⟨nm,e,kpos⟩::kws) (tCons te t):=by
 intro pos pins s σ H Q I h
 show wpAny _ _ (evalAll ((do let v ←eval e X.env;standAt pos;pure v)::(backToKw pos (keywordEach kws X.env)).map (·.2))) _ _ s
 refine wpAny_evalAll_cons (wpAny_bind (thn (ha pins s σ H _ I h) fun u s1 ⟨x,H1,I1,r1,q1⟩=>wpAny_bind (wpAny_standAt (wpAny_pure ?_))))
 exact thn (hr pos pins s1 σ H1 _ I1 q1) fun us s2 ⟨xs,H2,I2,r2,q2⟩=>⟨x::xs,H2,I2,.cons r1 r2,q2⟩
variable {g:List Value→List Value→List Value}{gV:List V→List V→List V}
end
structure FnScope(N P:List Str)(sc:Scope):Prop where
 kind:sc.kind= .function
 co:sc.isCoroutine=false
 gen:sc.isGenerator=false
 nd:N.Nodup
 pre:N.take P.length=P
 par: ∀x∈P,sc.names.lookup x=some .local ∨sc.names.lookup x=some .cell
 nofree: ∀y∈sc.names,y.2≠ .free
theorem bindL_out{kindOf:Str→Option NameKind}{x:Str}: ∀{binds:List (Str×Value)} {m:Str→Option Value},(∀v,(x,v)∉binds)→bindL kindOf binds m x=m x
 | [],_,_=>rfl
 | (n,v)::r,m,h=>by
  unfold bindL
  rw[bindL_out fun w hw=>h w (List.mem_cons_of_mem _ hw)]
  split
  ·have:x≠n:=by rintro rfl;exact h v List.mem_cons_self
   simp[this]
  ·rfl
theorem bindC_out{kindOf:Str→Option NameKind}{x:Str}: ∀{binds:List (Str×Value)} {m:Str→Option Value},(∀v,(x,v)∉binds)→bindC kindOf binds m x=m x
 | [],_,_=>rfl
 | (n,v)::r,m,h=>by
  unfold bindC
  rw[bindC_out fun w hw=>h w (List.mem_cons_of_mem _ hw)]
  split
  ·rfl
  ·have:x≠n:=by rintro rfl;exact h v List.mem_cons_self
   simp[this]
theorem bindL_get{kindOf:Str→Option NameKind}{x:Str}{v:Value}: ∀{P:List Str} {vs:List Value} {i:Nat} {m:Str→Option Value},P.Nodup→P[i]? =some x→vs[i]? =some v→kindOf x=some .local →
  bindL kindOf (P.zip vs) m x=some v
 | [],_,_,_,_,h,_,_=>by simp at h
 | _::_,[],_,_,_,_,h,_=>by simp at h
 | p::P,w::vs,0,m,nd,h1,h2,hk=>by
  simp at h1 h2;subst h1;subst h2
  show bindL kindOf ((p,w)::P.zip vs) m p=_
  unfold bindL
  rw[bindL_out fun v hv=>(List.nodup_cons.mp nd).1 (List.of_mem_zip hv).1,if_pos hk]
  simp
 | p::P,w::vs,i+1,m,nd,h1,h2,hk=>by
  show bindL kindOf ((p,w)::P.zip vs) m x=_
  unfold bindL
  exact bindL_get (i:=i) (List.nodup_cons.mp nd).2 (by simpa using h1) (by simpa using h2) hk
theorem bindC_get{kindOf:Str→Option NameKind}{x:Str}{v:Value}: ∀{P:List Str} {vs:List Value} {i:Nat} {m:Str→Option Value},P.Nodup→P[i]? =some x→vs[i]? =some v→kindOf x≠some .local →
  bindC kindOf (P.zip vs) m x=some v
 | [],_,_,_,_,h,_,_=>by simp at h
 | _::_,[],_,_,_,_,h,_=>by simp at h
 | p::P,w::vs,0,m,nd,h1,h2,hk=>by
  simp at h1 h2;subst h1;subst h2
  show bindC kindOf ((p,w)::P.zip vs) m p=_
  unfold bindC
  rw[bindC_out fun v hv=>(List.nodup_cons.mp nd).1 (List.of_mem_zip hv).1,if_neg hk]
  simp
 | p::P,w::vs,i+1,m,nd,h1,h2,hk=>by
  show bindC kindOf ((p,w)::P.zip vs) m x=_
  unfold bindC
  exact bindC_get (i:=i) (List.nodup_cons.mp nd).2 (by simpa using h1) (by simpa using h2) hk
def start(N:List Str)(vs:List V):St:=vs.map some++List.replicate (N.length-vs.length) none
def cxOf(CX:CXT)(P:Program)(w:World)(K:PySem.W.Frag)(mg:Str→Option Value)(base:Heap)(N:List Str)(qual:Str)(scope:Scope)(f:Addr)(cd:Value)(A:Around)(outer:List Env)(s:Shared)(H:Hp)(E:XK):Cx where
 prog:=P
 w:=w
 K:=K
 mg:=mg
 base:=base
 A:=A.deeper (envOfC qual scope s.heap.objs.size f cd)
 N:=N
 s_0:=s
 H_0:=H
 env:=envOfC qual scope s.heap.objs.size f cd
 outer:=outer
 stack:=envOfC qual scope s.heap.objs.size f cd::outer
 ex:=[]
 calm:=true
 fn:=fun _=>true
 pn:=[]
 xe:=fun e s'=>wpAny (model P w) (A.deeper (envOfC qual scope s.heap.objs.size f cd)) (leaving (envOfC qual scope s.heap.objs.size f cd) e) (fun _ s''=>CX outer H s E e s'') (fun e' s''=>CX outer H s E e' s'') s'
theorem cell_has{sc:Scope}{n:Nat}{x:Str}(h:sc.names.lookup x=some .cell): ∃c,(cellsFrom n sc.names []).lookup x=some c:=by
 have q:=PySem.W.cellsFrom_some sc.names n [] (.inl h)
 exact Option.isSome_iff_exists.mp q
theorem inv_start{CX:CXT}{P:Program}{w:World}{K:PySem.W.Frag}{mg:Str→Option Value}{base:Heap}{N ps:List Str}{qual:Str}{scope:Scope}{f:Addr}{cd:Value}{A:Around}{outer:List Env}{s s1:Shared}{H:Hp}{E:XK}{us:List Value}{vs:List V}
  (S:FnScope N ps scope)(hd:A.handled=none)(e0:Env0 P w K mg base A outer s H)(hl:vs.length=ps.length)(r:Vals vs us)
  (x:InCallC s s.heap.objs.size (bindL (envOfC qual scope s.heap.objs.size f cd).kindOf (ps.zip us) fun _=>none) (cellsFrom (s.heap.objs.size+1) scope.names []) (bindC (envOfC qual scope s.heap.objs.size f cd).kindOf (ps.zip us) fun _=>none) s1):
  Inv (cxOf CX P w K mg base N qual scope f cd A outer s H E) [] (start N vs) H s1:=by
 have hpl:ps.length≤N.length:=by have:=congrArg List.length S.pre;rw[List.length_take]at this;omega
 obtain⟨h1,tk,rfl,hk⟩:=x.done
 have noA: ∀b:Addr,b∉(cxOf CX P w K mg base N qual scope f cd A outer s H E).ex :=fun b z=>absurd (show b∈([]:List Addr)from z) (by simp)
 refine⟨⟨e0.mod,S.kind,rfl,rfl,Nat.le_refl _,fun y z c h1 h2=>?_,fun y hy=>?_,fun y c _ h=>?_,fun _=>hd,Around.frames_deeper e0.frames,.inr ⟨rfl,rfl⟩,fun b z=>absurd z (noA b),e0.bs,e0.bsz,fun b _ _=>noA b,fun b z=>absurd z (noA b),e0.funs,e0.frf⟩,
  rfl,e0.bare,Un.kept hk,⟨_,x.toInCall.ns,fun i y v h1 h2 h3=>?_⟩,fun y c h=>⟨_,x.cell y c h⟩,e0.hok.fresh (Nat.le_refl _),fun y c h=>?_,fun p hp=>absurd (show p∈([]:List (Addr×Obj))from hp) (by simp),e0.hok.kept hk,?_⟩
 ·exact name_of_addr x.apart (PySem.mem_of_lookup h1) (PySem.mem_of_lookup h2)
 ·have hy:scope.names.lookup y=some .cell ∨scope.names.lookup y=some .free :=hy
  rcases hy with hy | hy
  ·exact cell_has hy
  ·exact absurd rfl (S.nofree _ (PySem.mem_of_lookup hy))
 ·exact Nat.le_of_lt (x.above y c (PySem.mem_of_lookup h))
 ·have hi:i<vs.length:=by
   unfold start at h2
   by_cases hi:i<vs.length
   ·exact hi
   ·rw[List.getElem?_append_right (by simpa using hi)]at h2
    rw[List.getElem?_replicate]at h2
    split at h2<;>cases h2
  have ha:vs[i]? =some v:=by
   unfold start at h2
   rw[List.getElem?_append_left (by simpa using hi),List.getElem?_map]at h2
   cases e:vs[i]? with
   | none=>rw[e]at h2;cases h2
   | some a=>rw[e]at h2;cases h2;rfl
  obtain⟨u,hu,rv⟩:=r.get ha
  have hp:ps[i]? =some y:=by
   rw[←S.pre,List.getElem?_take_of_lt (by omega)];exact h1
  have ndP:ps.Nodup:=by rw[←S.pre];exact S.nd.sublist (List.take_sublist _ _)
  refine⟨u,rv,?_⟩
  rcases S.par y (List.mem_of_getElem? hp)with k | k
  ·exact .inl ⟨k,bindL_get ndP hp hu k⟩
  ·obtain⟨c,e⟩:=cell_has (n:=s.heap.objs.size+1) k
   refine .inr ⟨.inl k,c,e,?_⟩
   have q:=x.cell y c e
   rw[bindC_get ndP hp hu (by show scope.names.lookup y≠_;rw[k];decide)]at q
   exact q
 ·exact e0.hok.fresh (Nat.le_of_lt (x.above y c (PySem.mem_of_lookup h)))
 ·unfold start
  show _=N.length
  rw[List.length_append,List.length_map,List.length_replicate]
  omega
theorem fn_of{CX:CXT}{P:Program}{w:World}{K:PySem.W.Frag}{mg:Str→Option Value}{base:Heap}{k:Nat}{f:Addr}{name qual:Str}{params:Arguments}{body:List Stmt}{scope:Scope}{dV kV doc pm cdv ct oc:Value}{an od:Option Addr}
  {osl:Array (Option Value)}{N ps:List Str}{sp:Sp}(lk:K.lookup f=some ⟨oc,od,.func (PySem.W.fnOf name qual params body scope dV kV doc pm an cdv ct),osl⟩)(hcd:PySem.W.codeIn K cdv qual=true)(S:FnScope N ps scope)
  (len: ∀vs H Q E,sp vs H Q E→vs.length=ps.length)
  (hbody: ∀(A:Around) (outer:List Env) (s:Shared) (H:Hp) (vs:List V) (Q:VK) (E:XK),Room k (A.deeper (envOfC qual scope s.heap.objs.size f cdv))→sp vs H Q E→
   ∃t,PSs (cxOf CX P w K mg base N qual scope f cdv A outer s H E) body t∧t {nx:=fun _ H'=>Q .non H',rt:=Q} (start N vs) H):
  FnOk P w K mg base CX (k+1) f (PySem.W.fnOf name qual params body scope dV kV doc pm an cdv ct) ps sp:=by
 refine⟨len,fun A outer s H args us vs Q E hr e0 hb r hsp=>?_⟩
 have hl:=len _ _ _ _ hsp
 have KX:K.In s.heap:=e0.mod.kin.keeps fun b o e=>(e0.bs b o e).1
 have lim:s.heap.NoLimit:=e0.mod.nolimit.keeps fun b o e=>(e0.bs b o e).1
 have hkind: ∀y∈ps.zip us,scope.names.lookup y.1=some .local ∨(scope.names.lookup y.1=some .cell ∧((cellsFrom (s.heap.objs.size+1) scope.names []).lookup y.1).isSome =true):=fun⟨n,v⟩ hy=>by
  rcases S.par n (List.of_mem_zip hy).1 with q | q
  ·exact .inl q
  ·exact .inr ⟨q,PySem.W.cellsFrom_some _ _ _ (.inl q)⟩
 refine codeAny_call_function hr.depth (KX _ _ lk) rfl S.co S.gen rfl (PySem.W.codeRec_of KX hcd) (hb _ _ _ _ ?_)
 refine wpAny_newFunctionEnv_cells S.kind hkind fun env he s1 x=>?_
 subst he
 refine⟨lim.keeps x.toInCall.keep,codeAny_func ?_⟩
 obtain⟨t,ht,hq⟩:=hbody A outer s H vs Q E (hr.deeper _) hsp
 have I:Inv (cxOf CX P w K mg base N qual scope f cdv A outer s H E) [] (start N vs) H s1:=inv_start S hr.hd e0 hl r x
 refine wpAny_mono (ht [] s1 (start N vs) H _ I hq) (fun fl s' hs=>?_) fun e s' hs=>hs
 have fin: ∀{σ':St} {H':Hp} {v:V} {u:Value},Inv (cxOf CX P w K mg base N qual scope f cdv A outer s H E) [] σ' H' s'→RelV v u→Q v H'→CE outer P w H s Q u s':=
  fun{σ' H' v u} J rv q=>⟨v,H',J.os,J.bare,J.base,J.hok,rv,q⟩
 cases fl with
 | ret u=>
  obtain⟨v,σ',H',J,rv,q⟩:=hs
  exact fin J rv q
 | next=>
  obtain⟨σ',H',J,q⟩:=hs
  exact fin (v:=V.non) (u:=Value.none) J rfl q
 | brk=>
  obtain⟨_,_,_,q⟩:=hs
  exact False.elim q
 | cont=>
  obtain⟨_,_,_,q⟩:=hs
  exact False.elim q
section
variable {X:Cx}{x:Str}{p pos:Pos}{e:Expr}{es:List Expr}{t:TA}{id T:String}{r:List V→Hp→VK→Prop}
def tCB(r:List V→Hp→VK→Prop)(t:TA):TE:=fun σ H Q=>t σ H fun vs H1=>r vs H1 Q
theorem pe_callB(hc:CallR X (.builtin id) r)(hg:Gl X x)(hm:X.mg x=none)(hv:bootBuiltins x=some (.builtin id))(ha:PA X (e::es) t)(hn:x≠"__name__":=by decide)(hdb:(x==("__debug__":Str))=false:=by decide)
  (he:starEach (e::es) X.env=(false,eval e X.env)::starEach es X.env:=by rfl)(hpl:(backTo pos (starEach es X.env)).any (·.1)=false:=by rfl):PE X (.Call (.Name x p) (e::es) [] pos) (tCB r t):=by
 intro pins s σ H Q I h
 refine wpAny_Call_Name_kw (ld_blt I hg hm hv ?_ hn hdb)
 exact PyProof.Rows.callWith_builtin1 (thn (ha pos pins s σ H _ I h) fun us s1 ⟨vs,H1,I1,r1,q1⟩=>hc pins s1 σ H1 vs us Q I1 r1 q1) he hpl
theorem pe_callTy(hc:CallR X (.type T) r)(hg:Gl X x)(hm:X.mg x=none)(hv:bootBuiltins x=some (.type T))(ha:PA X (e::es) t)(hn:x≠"__name__":=by decide)(hdb:(x==("__debug__":Str))=false:=by decide)
  (he:starEach (e::es) X.env=(false,eval e X.env)::starEach es X.env:=by rfl)(hpl:(backTo pos (starEach es X.env)).any (·.1)=false:=by rfl):PE X (.Call (.Name x p) (e::es) [] pos) (tCB r t):=by
 intro pins s σ H Q I h
 refine wpAny_Call_Name_kw (ld_blt I hg hm hv ?_ hn hdb)
 exact PyProof.Rows.callWith_type1 (thn (ha pos pins s σ H _ I h) fun us s1 ⟨vs,H1,I1,r1,q1⟩=>hc pins s1 σ H1 vs us Q I1 r1 q1) he hpl
end
end L2
namespace HT
open PySem PyProof.Rows
def lexLt:List Int→List Int→Bool
 | [],[]=>false
 | [],_::_=>true
 | _::_,[]=>false
 | x::xs,y::ys=>if x=y then lexLt xs ys else decide (x<y)
theorem lexLt_cons(x y:Int)(xs ys:List Int):lexLt (x::xs) (y::ys)=if x=y then lexLt xs ys else decide (x<y):=rfl
theorem eqAt_int(A:Around)(s:Shared)(a:Int)(t:Tok)(c:Int)(u:Tok): ∃e,SeqAt.EqAt A s (.int a t) (.int c u) e∧(e=true↔a=c):=
 ⟨(a==c),SeqAt.EqAt.int_int a t c u,by simp⟩
theorem rcLt_int(A:Around)(s:Shared)(a:Int)(t:Tok)(c:Int)(u:Tok)(prog:Program)(w:World)(E:Value→Shared→Prop)(Q:Value→Shared→Prop)(h:Q (.bool (decide (a<c))) s):
  wpAny (model prog w) A (richCompare .Lt (.int a t) (.int c u)) Q E s:=
 (PyProof.Rows.lt_int h:wpAny (model prog w) A (compareOp .Lt (.int a t) (.int c u)) Q E s)
section
variable {prog:Program}{w:World}{A:Around}{E:Value→Shared→Prop}{s:Shared}
def sIx(n d:Nat):Option Int→Nat
 | none=>d
 | some v=>if v<0 then(v+(n:Int)).toNat else min v.toNat n
theorem sIx_nat(n d k:Nat):sIx n d (some (k:Int))=min k n:=by
 show(if (k:Int)<0 then((k:Int)+(n:Int)).toNat else min (k:Int).toNat n)=min k n
 rw[if_neg (by omega),Int.toNat_natCast]
end
end HT
namespace L2
open PySem PySem.Spec PyProof.Rows
abbrev TO:=St→Hp→(Option Int→Hp→Prop)→Prop
def PO(X:Cx)(e:Option Expr)(t:TO):Prop:=
 ∀(pins:List (Addr×Obj)) (s:Shared) (σ:St) (H:Hp) (Q:Option Int→Hp→Prop),Inv X pins σ H s→t σ H Q→
  wpAny (model X.prog X.w) X.A (evalPart e X.env) (fun u s'=> ∃o H',Inv X pins σ H' s'∧IsPart u o∧Q o H') X.xe s
def tNoPart:TO:=fun _ H Q=>Q none H
def tPart(t:TE):TO:=fun σ H Q=>t σ H fun x H1=> ∃i,x= .int i∧Q (some i) H1
theorem intsAre_of{ns:List Int}: ∀{us:List Value},Vals (ns.map V.int) us→IntsAre us ns:=by
 induction ns with
 | nil=>intro us r;rw[List.map_nil]at r;cases r;exact .nil
 | cons n ns ih=>
  intro us r
  rw[List.map_cons]at r
  cases r with
  | cons r1 r2=>
   obtain⟨t,e⟩:=r1
   subst e
   exact .cons n t (ih r2)
section
variable {X:Cx}{e:Expr}{te:TE}{lo hi:Option Expr}{tl th:TO}{pos p2:Pos}
theorem po_none:PO X none tNoPart:=by
 intro pins s σ H Q I h
 rw[evalPart_none]
 exact wpAny_pure ⟨none,H,I,.none,h⟩
theorem po_some(h:PE X e te):PO X (some e) (tPart te):=by
 intro pins s σ H Q I hw
 rw[evalPart_some]
 refine thn (h pins s σ H _ I hw) fun u s1 ⟨x,H1,I1,r1,q1⟩=>?_
 obtain⟨i,rfl,q⟩:=q1
 obtain⟨t,rfl⟩:=r1
 exact⟨some i,H1,I1,.int i t,q⟩
def SlR(X:Cx)(r:V→Option Int→Option Int→Hp→VK→Prop):Prop:=
 ∀(pins:List (Addr×Obj)) (s:Shared) (σ:St) (H:Hp) (x:V) (v vl vu:Value) (lo hi:Option Int) (sl:Addr) (Q:VK),Inv X pins σ H s→RelV x v→s.heap.IsSliceOf sl vl vu .none →IsPart vl lo→IsPart vu hi→r x lo hi H Q→
  ∃T id,typeLookup (.type T) "__getitem__"=pure (some (.builtin id))∧s.TypeIs v T∧wpAny (model X.prog X.w) X.A (getItem v (.ref sl)) (EP X pins σ Q) X.xe s
def tSl(r:V→Option Int→Option Int→Hp→VK→Prop)(te:TE)(tl th:TO):TE:=fun σ H Q=>te σ H fun x H1=>tl σ H1 fun l H2=>th σ H2 fun u H3=>r x l u H3 Q
theorem pe_slice{r:V→Option Int→Option Int→Hp→VK→Prop}(hr:SlR X r)(he:PE X e te)(hl:PO X lo tl)(hu:PO X hi th):PE X (.Subscript e (.Slice lo hi none p2) pos) (tSl r te tl th):=by
 intro pins s σ H Q I h
 refine Subscript_ (thn (he pins s σ H _ I h) fun v s1 ⟨x,H1,I1,r1,q1⟩=>?_)
 refine wpAny_Slice (thn (hl pins s1 σ H1 _ I1 q1) fun vl s2 ⟨l,H2,I2,pl,q2⟩=>thn (hu pins s2 σ H2 _ I2 q2) fun vu s3 ⟨u,H3,I3,pu,q3⟩=>?_)
 rw[evalPart_none]
 refine wpAny_pure ?_
 have I4:Inv X pins σ H3 {s3 with heap:=s3.heap.push {cls:= .type "slice",data:= .fields #[vl,vu,.none]}}:=I3.kept (t':=s3.toks) fun b ob q=>Heap.get?_push_of_some _ q
 obtain⟨T,id,hT,ht,hg⟩:=hr pins {s3 with heap:=s3.heap.push {cls:= .type "slice",data:= .fields #[vl,vu,.none]}} σ H3 x v vl vu l u s3.heap.objs.size Q I4 r1 (Heap.IsSliceOf.new ..) pl pu q3
 show wpAny (model X.prog X.w) X.A (subscriptTail e (.Slice lo hi none p2) v (.ref s3.heap.objs.size)) (EP X pins σ Q) X.xe {s3 with heap:=s3.heap.push {cls:= .type "slice",data:= .fields #[vl,vu,.none]}}
 exact tail_any (ops:=[.ref s3.heap.objs.size,v]) ht hT hg (by with_unfolding_all rfl)
def cutV(xs:List V)(lo hi:Option Int):List V:=(xs.drop (HT.sIx xs.length 0 lo)).take (HT.sIx xs.length xs.length hi-HT.sIx xs.length 0 lo)
theorem cutV_length(xs:List V)(lo hi:Option Int):(cutV xs lo hi).length ≤xs.length:=by
 unfold cutV
 rw[List.length_take,List.length_drop]
 omega
end
def ixN(n:Nat)(i:Int):Option Nat:=if 0≤i then(if i<n then some i.toNat else none)else if -(n:Int)≤i then some (i+n).toNat else none
def atI{α:Type}(xs:List α)(i:Int):Option α:=(ixN xs.length i).bind fun j=>xs[j]?
theorem ixN_seq{n:Nat}{i:Int}{j:Nat}(h:ixN n i=some j):seqIndex? i n=some j∧j<n∧ -(n:Int)≤i∧i<n:=by
 unfold ixN at h
 by_cases h0:0≤i
 ·rw[if_pos h0]at h
  by_cases h1:i<n
  ·rw[if_pos h1]at h
   have e:i.toNat=j:=Option.some.inj h
   exact⟨by rw[seqIndex_of h0 h1,e],by omega,by omega,h1⟩
  ·rw[if_neg h1]at h;cases h
 ·rw[if_neg h0]at h
  by_cases h1: -(n:Int)≤i
  ·rw[if_pos h1]at h
   have e:(i+n).toNat =j:=Option.some.inj h
   exact⟨by rw[seqIndex_neg (by omega) h1,e],by omega,h1,by omega⟩
  ·rw[if_neg h1]at h;cases h
theorem atI_get{α:Type}{xs:List α}{i:Int}{v:α}(h:atI xs i=some v): ∃j,seqIndex? i xs.length=some j∧xs[j]? =some v∧j<xs.length∧ -(xs.length:Int)≤i∧i<xs.length:=by
 unfold atI at h
 cases e:ixN xs.length i with
 | none=>rw[e]at h;cases h
 | some j=>
  rw[e]at h
  obtain⟨h1,h2,h3,h4⟩:=ixN_seq e
  exact⟨j,h1,h,h2,h3,h4⟩
theorem atI_nat{α:Type}{xs:List α}{j:Nat}{v:α}(h:xs[j]? =some v):atI xs (j:Int)=some v:=by
 have hj:j<xs.length:=(List.getElem?_eq_some_iff.mp h).1
 have e:ixN xs.length (j:Int)=some j:=by
  unfold ixN
  rw[if_pos (by omega),if_pos (by omega)];simp
 unfold atI;rw[e];exact h
def PlainIx(b:Expr):Prop:= ∀o i,subscripted b false o i=operate [o,i] (getItem o i)
def IxR(X:Cx)(r:R2):Prop:=
 ∀(value slice:Expr) (pins:List (Addr×Obj)) (s:Shared) (σ:St) (H:Hp) (x y:V) (v u:Value) (Q:VK),Inv X pins σ H s→RelV x v→RelV y u→r x y H Q→
  subscripted slice false v u=operate [v,u] (getItem v u)→wpAny (model X.prog X.w) X.A (subscriptTail value slice v u) (EP X pins σ Q) X.xe s
def MtR(X:Cx)(id:String)(r:V→List V→Hp→VK→Prop):Prop:=
 ∀(pins:List (Addr×Obj)) (s:Shared) (σ:St) (H:Hp) (x:V) (xs:List V) (v:Value) (us:List Value) (Q:VK),Inv X pins σ H s→RelV x v→Vals xs us→r x xs H Q→
  wpAny (model X.prog X.w) X.A (call (.builtin id) (v::us)) (EP X pins σ Q) X.xe s
section
variable {X:Cx}{a b:Expr}{ta tb:TE}{pos:Pos}
theorem pe_ix{r:R2}(hr:IxR X r)(ha:PE X a ta)(hb:PE X b tb)(hs:PlainIx b):PE X (.Subscript a b pos) (tOp r ta tb):=by
 intro pins s σ H Q I h
 exact Subscript_ (binT ha hb I h fun v u s2 x y H2 I2 rx ry q=>hr a b pins s2 σ H2 x y v u Q I2 rx ry q (hs _ _))
def rIxL(K:PySem.W.Frag):R2:=fun x y H Q=> ∃p xs i v,x= .ref p∧y= .int i∧SqL K H p xs∧atI xs i=some v∧Q v H
def rIxT(K:PySem.W.Frag):R2:=fun x y H Q=> ∃p xs i v,x= .ref p∧y= .int i∧SqT K H p xs∧atI xs i=some v∧Q v H
theorem ix_list:IxR X (rIxL X.K):=by
 intro value slice pins s σ H x y v u Q I rx ry h hs
 obtain⟨p,xs,i,z,rfl,rfl,hq,he,q⟩:=h
 cases rx
 obtain⟨t,rfl⟩:=ry
 obtain⟨its,r,pl,hz⟩:=I.list hq
 obtain⟨j,h1,h2,h3,h4,h5⟩:=atI_get he
 obtain⟨w,ew,rw'⟩:=r.get h2
 have hl:=r.length
 have hn:=line63
 have fin:EP X pins σ Q w s:=⟨z,H,I,rw',q⟩
 by_cases h0:0≤i
 ·have hj:i.toNat=j:=by
   rw[seqIndex_of h0 h5]at h1
   exact Option.some.inj h1
  exact item_listR pl.isList h0 (by omega) (by rw[hj];simpa using ew) fin hs
 ·have hj:(i+(its.toArray.size:Int)).toNat =j:=by
   rw[seqIndex_neg (by omega) h4]at h1
   rw[List.size_toArray,←hl]
   exact Option.some.inj h1
  exact subscriptTail_builtinR (x:=w) pl.isList.typeIs slot_list_getitem.lookup
   (wpAny_getItem_list_neg (Q:=fun r s'=>r=w∧EP X pins σ Q r s') pl.isList (by omega) (by rw[List.size_toArray]<;>omega) (by omega) (by rw[hj];simpa using ew) ⟨rfl,fin⟩) hs
theorem ix_tup:IxR X (rIxT X.K):=by
 intro value slice pins s σ H x y v u Q I rx ry h hs
 obtain⟨p,xs,i,z,rfl,rfl,hq,he,q⟩:=h
 cases rx
 obtain⟨t,rfl⟩:=ry
 obtain⟨its,r,pl,hz⟩:=I.tuple hq
 obtain⟨j,h1,h2,h3,h4,h5⟩:=atI_get he
 obtain⟨w,ew,rw'⟩:=r.get h2
 have hl:=r.length
 have hn:=line63
 have fin:EP X pins σ Q w s:=⟨z,H,I,rw',q⟩
 exact subscriptTail_builtinR (x:=w) pl.typeIs slot_tuple_getitem.lookup
  (getItem_tuple (j:=j) (Q:=fun r s'=>r=w∧EP X pins σ Q r s') pl (by omega) (by omega) (by rw[List.size_toArray,←hl];exact h1) (by simpa using ew) ⟨rfl,fin⟩) hs
theorem slice_bounds(lo hi:Option Int)(n:Nat):(sliceBounds lo hi none n).1=((HT.sIx n 0 lo:Nat):Int)∧(sliceBounds lo hi none n).2.1=((HT.sIx n n hi:Nat):Int)∧(sliceBounds lo hi none n).2.2=1:=by
 refine⟨?_,?_,rfl⟩
 ·cases lo with
  | none=>simp[sliceBounds,HT.sIx]
  | some i=>
   simp only[sliceBounds,HT.sIx,Option.getD_none,show(1:Int)>0 by decide,if_true]
   by_cases h:i<0
   ·simp only[h,if_true]<;>omega
   ·simp only[h,if_false]<;>omega
 ·cases hi with
  | none=>simp[sliceBounds,HT.sIx]
  | some i=>
   simp only[sliceBounds,HT.sIx,Option.getD_none,show(1:Int)>0 by decide,if_true]
   by_cases h:i<0
   ·simp only[h,if_true]<;>omega
   ·simp only[h,if_false]<;>omega
theorem slicePick_cut(its:List Value)(lo hi:Option Int):slicePick its.toArray lo hi none=((its.drop (HT.sIx its.length 0 lo)).take (HT.sIx its.length its.length hi-HT.sIx its.length 0 lo)).toArray :=by
 obtain⟨h1,h2,h3⟩:=slice_bounds lo hi its.toArray.size
 unfold slicePick
 rw[h1,h2,h3]
 simp only[sliceRange_one,pick_run,List.size_toArray]<;>rfl
def rSlL(K:PySem.W.Frag):V→Option Int→Option Int→Hp→VK→Prop:=fun x lo hi H Q=> ∃a xs,x= .ref a∧SqL K H a xs∧ ∀p,H p=none→Q (.ref p) (upd H p (.lst (cutV xs lo hi)))
theorem sl_list:SlR X (rSlL X.K):=by
 intro pins s σ H x v vl vu lo hi sl Q I rx hs pl pu h
 obtain⟨a,xs,rfl,hx,q⟩:=h
 cases rx
 obtain⟨its,r,ht,hz⟩:=I.list hx
 have hlen:=r.length
 refine⟨"list",_,slot_list_getitem.lookup,ht.isList.typeIs,?_⟩
 refine wpAny_getItem_list_slice ht.isList hs pl pu .none (by simp) ?_ (by rw[List.size_toArray]<;>omega)
 rw[slicePick_cut,←hlen]
 refine⟨.ref s.heap.objs.size,_,I.laid (t':=s.toks) (o:= .lst (cutV xs lo hi)) (fun b ob q=>Heap.get?_push_of_some _ q) (Nat.le_refl _) ?_,rfl,q _ (I.hok.fresh (Nat.le_refl _))⟩
 exact⟨Nat.le_trans (cutV_length xs lo hi) hz,_,0,(r.drop (HT.sIx xs.length 0 lo)).take (HT.sIx xs.length xs.length hi-HT.sIx xs.length 0 lo),Heap.get?_push_size _ rfl⟩
def flatV:V→Bool
 | .non =>true
 | .bl _=>true
 | .int _=>true
 | .str _=>true
 | _=>false
def eqV:V→V→Bool
 | .non,.non =>true
 | .bl a,.bl b=>a==b
 | .bl a,.int b=>(if a then 1 else 0)==b
 | .int a,.bl b=>a==(if b then 1 else 0)
 | .int a,.int b=>a==b
 | .str a,.str b=>a==b
 | _,_=>false
theorem eqAt_V{A:Around}{s:Shared}{y x:V}{u v:Value}(ry:RelV y u)(rx:RelV x v)(fy:flatV y=true)(fx:flatV x=true):SeqAt.EqAt A s u v (eqV y x):=by
 cases y with
 | non=>
  cases ry
  cases x with
  | non=>cases rx;exact SeqAt.EqAt.same _
  | bl b=>cases rx;exact SeqAt.EqAt.none_bool b
  | int b=>obtain⟨t,rfl⟩:=rx;exact SeqAt.EqAt.none_int b t
  | str b=>obtain⟨t,rfl⟩:=rx;exact SeqAt.EqAt.none_str b t
  | _=>exact absurd (show false=true from fx) Bool.false_ne_true
 | bl a=>
  cases ry
  cases x with
  | non=>cases rx;exact SeqAt.EqAt.bool_none a
  | bl b=>cases rx;exact SeqAt.EqAt.bool_bool a b
  | int b=>obtain⟨t,rfl⟩:=rx;exact SeqAt.EqAt.bool_int a b t
  | str b=>obtain⟨t,rfl⟩:=rx;exact SeqAt.EqAt.bool_str a b t
  | _=>exact absurd (show false=true from fx) Bool.false_ne_true
 | int a=>
  obtain⟨t',rfl⟩:=ry
  cases x with
  | non=>cases rx;exact SeqAt.EqAt.int_none a t'
  | bl b=>cases rx;exact SeqAt.EqAt.int_bool a t' b
  | int b=>obtain⟨t,rfl⟩:=rx;exact SeqAt.EqAt.int_int a t' b t
  | str b=>obtain⟨t,rfl⟩:=rx;exact SeqAt.EqAt.int_str a t' b t
  | _=>exact absurd (show false=true from fx) Bool.false_ne_true
 | str a=>
  obtain⟨t',rfl⟩:=ry
  cases x with
  | non=>cases rx;exact SeqAt.EqAt.str_none a t'
  | bl b=>cases rx;exact SeqAt.EqAt.str_bool a t' b
  | int b=>obtain⟨t,rfl⟩:=rx;exact SeqAt.EqAt.str_int a t' b t
  | str b=>obtain⟨t,rfl⟩:=rx;exact SeqAt.EqAt.str_str a t' b t
  | _=>exact absurd (show false=true from fx) Bool.false_ne_true
 | _=>exact absurd (show false=true from fy) Bool.false_ne_true
def eqU(x:V)(u:Value):Bool:=match u with
 | .none =>eqV .non x
 | .bool b=>eqV (.bl b) x
 | .int i _=>eqV (.int i) x
 | .str z _=>eqV (.str z) x
 | _=>false
theorem eqU_of{x y:V}{u:Value}(r:RelV y u)(f:flatV y=true):eqU x u=eqV y x:=by
 cases y with
 | non=>cases r;rfl
 | bl b=>cases r;rfl
 | int i=>obtain⟨t,rfl⟩:=r;rfl
 | str z=>obtain⟨t,rfl⟩:=r;rfl
 | _=>exact absurd (show false=true from f) Bool.false_ne_true
theorem any_eqU{x:V}: ∀{xs:List V} {us:List Value},Vals xs us→xs.all flatV=true→us.any (eqU x)=xs.any fun y=>eqV y x
 | _,_,.nil,_=>rfl
 | y::xs,u::us,.cons r t,f=>by
  rw[List.all_cons,Bool.and_eq_true]at f
  rw[List.any_cons,List.any_cons,eqU_of r f.1,any_eqU t f.2]
theorem mem_eqAt{A:Around}{s:Shared}{x:V}{v:Value}(rx:RelV x v)(fx:flatV x=true): ∀{xs:List V} {us:List Value},Vals xs us→xs.all flatV=true→ ∀u∈us,SeqAt.EqAt A s u v (eqU x u)
 | _,_,.nil,_=>fun u hu=>by cases hu
 | y::xs,u::us,.cons r t,f=>fun u' hu=>by
  rw[List.all_cons,Bool.and_eq_true]at f
  rcases List.mem_cons.mp hu with rfl | hu
  ·rw[eqU_of r f.1];exact eqAt_V r rx f.1 fx
  ·exact mem_eqAt rx fx t f.2 u' hu
def inV(x:V)(xs:List V):Bool:=xs.any fun y=>eqV y x
def rIn(K:PySem.W.Frag)(neg:Bool):R2:=fun x y H Q=> ∃p xs,y= .ref p∧(SqL K H p xs∨SqT K H p xs)∧flatV x=true∧xs.all flatV=true∧Q (.bl (if neg then !inV x xs else inV x xs)) H
theorem op_notIn_seq:OpR X (compareOp .NotIn) (rIn X.K true):=by
 intro pins s σ H x y v u Q I rx ry h
 obtain⟨p,xs,rfl,hq,fx,fs,q⟩:=h
 cases ry
 rcases hq with hq | hq
 ·obtain⟨its,r,pl,hz⟩:=I.list hq
  refine SeqAt.notIn_listAt (eqU x) pl.isList (fun w hw=>mem_eqAt rx fx r fs w (by simpa using hw)) ⟨.bl _,H,I,rfl,?_⟩
  rw[show its.toArray.any (eqU x)=its.any (eqU x) by simp,any_eqU r fs]
  exact q
 ·obtain⟨its,r,pl,hz⟩:=I.tuple hq
  refine SeqAt.notIn_tupleAt (eqU x) pl (fun w hw=>mem_eqAt rx fx r fs w (by simpa using hw)) ⟨.bl _,H,I,rfl,?_⟩
  rw[show its.toArray.any (eqU x)=its.any (eqU x) by simp,any_eqU r fs]
  exact q
theorem call_len_seq:CallR X (.builtin "len") (fun xs H Q=> ∃p ys,xs=[.ref p]∧(SqL X.K H p ys∨SqT X.K H p ys)∧Q (.int ys.length) H):=by
 intro pins s σ H xs us Q I r h
 obtain⟨p,ys,rfl,hq,q⟩:=h
 obtain⟨u,rfl,rx⟩:=vals1 r
 cases rx
 have hn:=line63
 rcases hq with hq | hq
 ·obtain⟨its,r',pl,hz⟩:=I.list hq
  have hlen:=r'.length
  exact Calls.call_len_list pl.isList (by simp only[List.size_toArray]<;>omega) ⟨.int ys.length,H,I.tok _,⟨s.toks+1,by rw[List.size_toArray,hlen]⟩,q⟩
 ·obtain⟨its,r',pl,hz⟩:=I.tuple hq
  have hlen:=r'.length
  exact len_tuple pl (by simp only[List.size_toArray]<;>omega) ⟨.int ys.length,H,I.tok _,⟨s.toks+1,by rw[List.size_toArray,hlen]⟩,q⟩
def tyV(K:PySem.W.Frag)(T:String)(x:V)(H:Hp):Prop:=match x with
 | .str _=>T="str"
 | .int _=>T="int"
 | .ref p=>(T="list"∧ ∃xs,SqL K H p xs)∨(T="tuple"∧ ∃o,K.lookup p=some o∧o.cls= .type "tuple"∧o.dict=none)∨
   (T="dict"∧((∃kvs,H p=some (.dK kvs))∨ ∃kvs,H p=some (.dT kvs)))∨(T="set"∧ ∃S n,H p=some (.set S n))
 | _=>False
theorem tyV_is{pins:List (Addr×Obj)}{σ:St}{H:Hp}{s:Shared}{T:String}{x:V}{v:Value}(I:Inv X pins σ H s)(r:RelV x v)(ty:tyV X.K T x H):
  s.TypeIs v T∧ ∀a,v= .ref a→ ∃ob,s.heap.get? a=some ob∧ob.dict=none:=by
 cases x with
 | str z=>
  obtain⟨t,rfl⟩:=r
  cases (show T="str" from ty)
  exact⟨typeIs_str s z t,fun _ e=>nomatch e⟩
 | int i=>
  obtain⟨t,rfl⟩:=r
  cases (show T="int" from ty)
  exact⟨typeIs_int s i t,fun _ e=>nomatch e⟩
 | ref p=>
  cases r
  rcases ty with ⟨rfl,xs,hq⟩ | ⟨rfl,o,hk,hc,hd⟩ | ⟨rfl,hk⟩ | ⟨rfl,S,n,hk⟩
  ·obtain⟨its,_,pl,_⟩:=I.list hq
   refine⟨pl.isList.typeIs,fun a e=>?_⟩
   cases e
   obtain⟨o,n,e,c,hd,_⟩:=pl
   exact⟨o,e,hd⟩
  ·refine⟨⟨o,I.kIn p o hk,hc⟩,fun a e=>?_⟩
   cases e
   exact⟨o,I.kIn _ o hk,hd⟩
  ·have z: ∃o,s.heap.get? p=some o∧o.ExactDict:=by
    rcases hk with ⟨kvs,hk⟩ | ⟨kvs,hk⟩
    ·obtain⟨_,_,_,_,o,_,_,e,ex,_⟩:=I.hok p _ hk
     exact⟨o,e,ex⟩
    ·obtain⟨_,_,_,_,o,_,_,e,ex,_⟩:=I.hok p _ hk
     exact⟨o,e,ex⟩
   obtain⟨o,e,ex⟩:=z
   refine⟨⟨o,e,ex.1⟩,fun a e2=>?_⟩
   cases e2
   exact⟨o,e,ex.2.1⟩
  ·obtain⟨o,_,_,_,e,ex,_⟩:=I.hok p _ hk
   refine⟨⟨o,e,ex.1⟩,fun a e2=>?_⟩
   cases e2
   exact⟨o,e,ex.2.1⟩
 | _=>exact False.elim ty
def tBM(K:PySem.W.Frag)(T:String)(r:V→List V→Hp→VK→Prop)(to:TE)(t:TA):TE:=fun σ H Q=>to σ H fun x H1=>tyV K T x H1∧t σ H1 fun xs H2=>r x xs H2 Q
variable {o e:Expr}{es:List Expr}{to:TE}{t:TA}{name:Str}{apos cpos:Pos}{T id:String}{r:V→List V→Hp→VK→Prop}
theorem pe_bm(pa:PlainAttrs T)(slot:Slot T name id)(hty:typeOf (.builtin id)=pure (.type "method_descriptor"))(hm:MtR X id r)(ho:PE X o to)(ha:PA X (e::es) t)
  (hbase:attributeBase o name X.env (eval o X.env)=eval o X.env:=by rfl)
  (hfew:((backTo cpos (starEach (e::es) X.env)).all (fun x=> !x.1)&&(backToKw cpos (keywordEach [] X.env)).all (fun x=>x.1.isSome)
   &&decide ((e::es).length +([]:List Keyword).length +(if ([]:List Keyword).isEmpty then 0 else 1)<30))=true:=by rfl)
  (hline:(apos.endLine==cpos.line)=true:=by rfl)(hs:starEach (e::es) X.env=(false,eval e X.env)::starEach es X.env:=by rfl)(hplain:(backTo cpos (starEach es X.env)).any (·.1)=false:=by rfl):
  PE X (.Call (.Attribute o name apos) (e::es) [] cpos) (tBM X.K T r to t):=by
 intro pins s σ H Q I h
 refine wpAny_Call_method_late hbase hfew hline rfl (thn (ho pins s σ H _ I h) fun v s1 ⟨x,H1,I1,r1,ty,q1⟩=>?_)
 obtain⟨h1,h2⟩:=tyV_is I1 r1 ty
 refine⟨T,id,pa,slot,hty,h1,h2,?_⟩
 have hA:=ha cpos pins s1 σ H1 _ I1 q1
 rw[hs]at hA ⊢
 refine Calls.callWith_builtin (by show(false || (backTo cpos (starEach es X.env)).any (·.1))=false;rw[hplain]<;>rfl) (Calls.evalArgs_plain ?_)
 exact thn hA fun us s2 ⟨vs,H2,I2,r2,q2⟩=>hm pins s2 σ H2 x vs v us Q I2 r1 r2 q2
end
def MtM(X:Cx)(id:String)(r:V→List V→Hp→VK→Prop):Prop:=
 ∀(pins:List (Addr×Obj)) (s:Shared) (σ:St) (H:Hp) (x:V) (xs:List V) (v:Value) (us:List Value) (Q:VK),Inv X pins σ H s→RelV x v→Vals xs us→r x xs H Q→
  wpAny (model X.prog X.w) X.A (call (.builtin id) (v::us)) (EP X pins σ Q) X.xe s
theorem Vals.one: ∀{x:V} {us:List Value},Vals [x] us→ ∃u,us=[u]∧RelV x u
 | _,_,.cons r .nil =>⟨_,rfl,r⟩
section
variable {X:Cx}{pins:List (Addr×Obj)}{σ:St}{H:Hp}{s:Shared}{l b:Addr}{xs ys zs:List V}
theorem Inv.lset{its its':List Value}{n:Nat}{f:Array Value→Array Value}{t':Nat}(I:Inv X pins σ H s)(hH:H l=some (.lst xs))
  (e:s.heap.get? l=some {cls:= .type "list",data:= .seq its.toArray n})(hf:f its.toArray=its'.toArray)(hv:Vals ys its')(hz:ys.length≤sizeLine):
  Inv X pins σ (upd H l (.lst ys)) {s with heap:=s.heap.update l (Obj.mapSeq f),toks:=t'}:=by
 have q:=PySem.IsL.update e f
 rw[hf]at q
 refine I.write (x:=l) (e:=l) (by rw[hH];exact trivial) (.inl rfl) (fun b' u hb hu=>(Heap.get?_update_other s.heap (Obj.mapSeq f) (Ne.symm hb)).trans hu) ⟨_,q⟩ ?_
 exact⟨hz,its',_,hv,q⟩
theorem Inv.lnew{its:List Value}{t':Nat}(I:Inv X pins σ H s)(hv:Vals ys its)(hz:ys.length≤sizeLine):
  Inv X pins σ (upd H s.heap.objs.size (.lst ys)) {s with heap:=s.heap.push {cls:= .type "list",data:= .seq its.toArray},toks:=t'}:=
 I.laid (fun _ _ q=>Heap.get?_push_of_some _ q) (Nat.le_refl _) ⟨hz,its,0,hv,Heap.get?_push_size _ rfl⟩
theorem Inv.fresh(I:Inv X pins σ H s):H s.heap.objs.size=none:=I.hok.fresh (Nat.le_refl _)
theorem Inv.lstM(I:Inv X pins σ H s)(hH:H l=some (.lst xs)):xs.length≤sizeLine∧ ∃(its:List Value) (n:Nat),Vals xs its∧xs.length=its.length∧s.heap.get? l=some {cls:= .type "list",data:= .seq its.toArray n}:=by
 obtain⟨z,its,n,r,e⟩:=I.hok l _ hH
 exact⟨z,its,n,r,r.length,e⟩
theorem notLongL{n:Nat}(h:n≤sizeLine):Builtin.List.listTooLong n=false:=by
 unfold Builtin.List.listTooLong
 exact decide_eq_false (by omega)
end
section
variable {X:Cx}
def rAppend:V→List V→Hp→VK→Prop:=fun x vs H Q=> ∃l xs y,x= .ref l∧vs=[y]∧H l=some (.lst xs)∧xs.length<sizeLine∧Q .non (upd H l (.lst (xs++[y])))
theorem mt_append:MtM X "list.append" rAppend:=by
 intro pins s σ H x vs v us Q I rx rv h
 obtain⟨l,xs,y,rfl,rfl,hH,hz,q⟩:=h
 cases rx
 obtain⟨u,rfl,ru⟩:=rv.one
 obtain⟨z,its,n,r,hl,e⟩:=I.lstM hH
 refine call_meets F.slot_list_append ⟨_,e,rfl⟩ F.entry_list_append (F.args_list_append_2 _ _) (PySem.list_append l its.toArray n u (by rw[List.size_toArray];omega)) ⟨e,?_⟩
 refine⟨.non,_,I.lset (its':=its++[u]) hH e (by simp) (r.append (.cons ru .nil)) ?_,rfl,q⟩
 rw[List.length_append,List.length_singleton]
 omega
def rExtend:V→List V→Hp→VK→Prop:=fun x vs H Q=> ∃l b xs zs,x= .ref l∧vs=[.ref b]∧H l=some (.lst xs)∧H b=some (.lst zs)∧xs.length+zs.length≤sizeLine∧Q .non (upd H l (.lst (xs++zs)))
theorem mt_extend:MtM X "list.extend" rExtend:=by
 intro pins s σ H x vs v us Q I rx rv h
 obtain⟨l,b,xs,zs,rfl,rfl,hH,hB,hz,q⟩:=h
 cases rx
 obtain⟨u,rfl,ru⟩:=rv.one
 cases ru
 obtain⟨z,its,n,r,hl,e⟩:=I.lstM hH
 obtain⟨z2,its2,n2,r2,hl2,e2⟩:=I.lstM hB
 have hsz:its.toArray.size+its2.toArray.size≤sizeLine:=by rw[List.size_toArray,List.size_toArray];omega
 have hlong: ¬(!its.toArray.isEmpty&&Builtin.List.listTooLong (its.toArray.size+its2.toArray.size))=true:=by
  rw[notLongL hsz,Bool.and_false]
  exact Bool.false_ne_true
 refine call_meets F.slot_list_extend ⟨_,e,rfl⟩ F.entry_list_extend (F.args_list_extend_2 _ _)
  (AutoSeq1.list_extend_list_list_0 l its.toArray n b its2.toArray n2 hlong (by rw[List.size_toArray];omega) (by omega)) ⟨e,e2,?_⟩
 refine⟨.non,_,I.lset (its':=its++its2) hH e (by simp) (r.append r2) ?_,rfl,q⟩
 rw[List.length_append]
 omega
def rCat:R2:=fun x y H Q=> ∃l b xs zs,x= .ref l∧y= .ref b∧H l=some (.lst xs)∧H b=some (.lst zs)∧xs.length+zs.length≤sizeLine∧ ∀p,H p=none→Q (.ref p) (upd H p (.lst (xs++zs)))
theorem op_cat:OpR X (binaryOp .Add) rCat:=by
 intro pins s σ H x y v u Q I rx ry h
 obtain⟨l,b,xs,zs,rfl,rfl,hH,hB,hz,q⟩:=h
 cases rx
 cases ry
 obtain⟨z,its,n,r,hl,e⟩:=I.lstM hH
 obtain⟨z2,its2,n2,r2,hl2,e2⟩:=I.lstM hB
 refine PySem.P.add_list e e2 ?_ (by rw[List.size_toArray,List.size_toArray];omega)
 have ea:its.toArray++its2.toArray=(its++its2).toArray :=by simp
 rw[ea]
 exact⟨.ref _,_,I.lnew (t':=s.toks) (r.append r2) (by rw[List.length_append];omega),rfl,q _ I.fresh⟩
end
abbrev CellAt(h:Heap)(c:Addr)(v:Option Value):Prop:=h.IsCell c v
def relS(scope sc:Scope):Scope:=
 {scope with names:=scope.names.map fun(n,k)=>if (k== .free &&sc.kind== .function &&sc.names.lookup n==some .cell)then(n,.cell)else(n,k)}
def cloFrom(cells:List (Str×Addr)):List (Str×NameKind)→List (Str×Addr)→List (Str×Addr)
 | [],acc=>acc
 | (n,k)::r,acc=>if k== .free then cloFrom cells r ((n,(cells.lookup n).getD 0)::acc)else cloFrom cells r acc
theorem closure_loop(env:Env)(f:Str×NameKind→List (Str×Addr)→Sem (ForInStep (List (Str×Addr))))
  (hf: ∀n k c,f (n,k) c=if k== .free then(do let a ←cellOf env n;pure (.yield ((n,a)::c)))else pure (.yield c)):
  ∀(names:List (Str×NameKind)) (acc:List (Str×Addr)),(∀y∈names,y.2= .free → ∃c,env.cells.lookup y.1=some c)→forIn names acc f=pure (cloFrom env.cells names acc)
 | [],acc,_=>by rw[List.forIn_nil];rfl
 | (n,k)::r,acc,h=>by
  rw[List.forIn_cons,hf]
  have ih:=fun acc=>closure_loop env f hf r acc fun y hy=>h y (List.mem_cons_of_mem _ hy)
  unfold cloFrom
  by_cases hk:(k==NameKind.free)=true
  ·rw[if_pos hk,if_pos hk]
   obtain⟨c,hc⟩:=h (n,k) List.mem_cons_self (by simpa using hk)
   have e:cellOf env n=pure c:=by unfold cellOf;rw[hc]
   rw[e]
   have e2:(env.cells.lookup n).getD 0=c:=by rw[hc];rfl
   rw[e2]
   exact ih _
  ·rw[if_neg hk,if_neg hk]
   exact ih _
theorem closure_ok{scope:Scope}{env:Env}(h: ∀y∈scope.names,y.2= .free → ∃c,env.cells.lookup y.1=some c):closureFor scope env=pure (cloFrom env.cells scope.names []):=by
 simp only[closureFor]
 rw[closure_loop env _ (fun n k c=>rfl) scope.names [] h]
 rfl
theorem mem_lookup{α:Type}: ∀{l:List (Str×α)} {n:Str} {c:α},(n,c)∈l→ ∃c',l.lookup n=some c'
 | (k,v)::r,n,c,h=>by
  rw[List.lookup_cons]
  cases hb:n==k with
  | true=>exact⟨_,rfl⟩
  | false=>
   rcases List.mem_cons.mp h with e | h
   ·cases e;simp at hb
   ·exact mem_lookup h
theorem cloFrom_mem{cells:List (Str×Addr)}: ∀{names:List (Str×NameKind)} {acc:List (Str×Addr)} {n:Str} {c:Addr},(n,c)∈cloFrom cells names acc→(n,c)∈acc∨((n,.free)∈names∧c=(cells.lookup n).getD 0)
 | [],_,_,_,h=> .inl h
 | (m,k)::r,acc,n,c,h=>by
  unfold cloFrom at h
  split at h
  ·rename_i hk
   have hk:k= .free :=by simpa using hk
   rcases cloFrom_mem h with h | ⟨h1,h2⟩
   ·rcases List.mem_cons.mp h with e | h
    ·cases e;exact .inr ⟨hk▸List.mem_cons_self,rfl⟩
    ·exact .inl h
   ·exact .inr ⟨List.mem_cons_of_mem _ h1,h2⟩
  ·rcases cloFrom_mem h with h | ⟨h1,h2⟩
   ·exact .inl h
   ·exact .inr ⟨List.mem_cons_of_mem _ h1,h2⟩
theorem cloFrom_acc{cells:List (Str×Addr)}: ∀{names:List (Str×NameKind)} {acc:List (Str×Addr)} {p:Str×Addr},p∈acc→p∈cloFrom cells names acc
 | [],_,_,h=>h
 | (m,k)::r,acc,p,h=>by
  unfold cloFrom
  split
  ·exact cloFrom_acc (List.mem_cons_of_mem _ h)
  ·exact cloFrom_acc h
theorem cloFrom_has{cells:List (Str×Addr)}: ∀{names:List (Str×NameKind)} {acc:List (Str×Addr)} {n:Str},(n,.free)∈names→(n,(cells.lookup n).getD 0)∈cloFrom cells names acc
 | (m,k)::r,acc,n,h=>by
  unfold cloFrom
  rcases List.mem_cons.mp h with e | h
  ·cases e
   exact cloFrom_acc List.mem_cons_self
  ·split
   ·exact cloFrom_has h
   ·exact cloFrom_has h
theorem cells_mem: ∀{names:List (Str×NameKind)} {h:Heap} {acc:List (Str×Addr)} {x:Str} {c:Addr},(x,c)∈cellsFrom h.objs.size names acc→
  (x,c)∈acc∨((x,.cell)∈names∧h.objs.size≤c∧CellAt (pushCells h names) c none)
 | [],_,_,_,_,h=> .inl h
 | (n,k)::r,h,acc,x,c,hm=>by
  unfold cellsFrom at hm
  unfold pushCells
  split at hm
  ·rename_i hk
   rw[if_pos hk]
   have hk:k= .cell :=by simpa using hk
   rw[←Heap.size_push h {cls:= .type "cell",data:= .cell none}]at hm
   rcases cells_mem hm with hm | ⟨h1,h2,h3⟩
   ·rcases List.mem_cons.mp hm with e | hm
    ·cases e
     exact .inr ⟨hk▸List.mem_cons_self,Nat.le_refl _,_,pushCells_keeps r _ _ _ (Heap.get?_push_size _ rfl),rfl⟩
    ·exact .inl hm
   ·rw[Heap.size_push]at h2
    exact .inr ⟨List.mem_cons_of_mem _ h1,Nat.le_of_succ_le h2,h3⟩
  ·rename_i hk
   rw[if_neg hk]
   rcases cells_mem hm with hm | ⟨h1,h2,h3⟩
   ·exact .inl hm
   ·exact .inr ⟨List.mem_cons_of_mem _ h1,h2,h3⟩
theorem cells_acc: ∀{names:List (Str×NameKind)} {n:Nat} {acc:List (Str×Addr)} {p:Str×Addr},p∈acc→p∈cellsFrom n names acc
 | [],_,_,_,h=>h
 | (m,k)::r,n,acc,p,h=>by
  unfold cellsFrom
  split
  ·exact cells_acc (List.mem_cons_of_mem _ h)
  ·exact cells_acc h
theorem cells_has: ∀{names:List (Str×NameKind)} {n:Nat} {acc:List (Str×Addr)} {x:Str},(x,.cell)∈names→ ∃c,(x,c)∈cellsFrom n names acc
 | (m,k)::r,n,acc,x,h=>by
  unfold cellsFrom
  rcases List.mem_cons.mp h with e | h
  ·cases e
   exact⟨n,cells_acc List.mem_cons_self⟩
  ·split
   ·exact cells_has h
   ·exact cells_has h
theorem cells_inj: ∀{names:List (Str×NameKind)} {h:Heap} {acc:List (Str×Addr)} {x y:Str} {c:Addr},(∀p∈acc,p.2<h.objs.size)→(∀x y c,(x,c)∈acc→(y,c)∈acc→x=y)→
  (x,c)∈cellsFrom h.objs.size names acc→(y,c)∈cellsFrom h.objs.size names acc→x=y
 | [],_,_,_,_,_,_,hi,h1,h2=>hi _ _ _ h1 h2
 | (n,k)::r,h,acc,x,y,c,hl,hi,h1,h2=>by
  unfold cellsFrom at h1 h2
  split at h1
  ·rename_i hk
   rw[if_pos hk]at h2
   rw[←Heap.size_push h {cls:= .type "cell",data:= .cell none}]at h1 h2
   refine cells_inj (h:=h.push _) (fun p hp=>?_) (fun x y c a b=>?_) h1 h2
   ·rw[Heap.size_push]
    rcases List.mem_cons.mp hp with rfl | hp
    ·exact Nat.lt_succ_self _
    ·exact Nat.lt_succ_of_lt (hl p hp)
   ·rcases List.mem_cons.mp a with e | a<;>rcases List.mem_cons.mp b with e' | b
    ·cases e;cases e';rfl
    ·cases e;exact absurd (hl _ b) (Nat.lt_irrefl _)
    ·cases e';exact absurd (hl _ a) (Nat.lt_irrefl _)
    ·exact hi _ _ _ a b
  ·rename_i hk
   rw[if_neg hk]at h2
   exact cells_inj hl hi h1 h2
theorem newEnv_comp{M:Model}{A:Around}{E:Value→Shared→Prop}{s:Shared}{scope:Scope}{globals:Addr}{closure:List (Str×Addr)}{qual:Str}{func:Option Addr}{code:Value}{around:Env}{builtins:Addr}{Q:Env→Shared→Prop}
  (h:Q (newEnv scope s.heap.objs.size globals (cellsFrom (s.heap.objs.size+1) scope.names closure) qual func code (some around) builtins)
   {s with heap:=pushCells (s.heap.push {cls:= .type "dict",data:= .dict #[]}) scope.names}):
  wpAny M A (newFunctionEnv scope globals closure [] qual func code (some around) builtins) Q E s:=by
 simp only[newFunctionEnv,Option.isSome_some,if_true]
 refine wpAny_bind (wpAny_alloc ?_)
 refine wpAny_bind (wpAny_layCells _ (fun n k c=>rfl) scope.names closure _ _ ?_)
 rw[show({s with heap:=s.heap.push {cls:= .type "dict",data:= .dict #[]}}:Shared).heap.objs.size =s.heap.objs.size+1 from Heap.size_push ..]
 rw[List.forIn_nil]
 exact wpAny_bind (wpAny_pure (wpAny_pure h))
theorem lookup_relS{sc:Scope}: ∀{names:List (Str×NameKind)} {x:Str} {k:NameKind},
  (names.map fun(n,k)=>if (k==NameKind.free&&sc.kind== .function &&sc.names.lookup n==some .cell)then(n,NameKind.cell)else(n,k)).lookup x=some k→
  ∃k',names.lookup x=some k'∧(k=k'∨(k'= .free ∧k= .cell))
 | [],_,_,h=>by simp at h
 | (n,k₀)::r,x,k,h=>by
  have ih:= @lookup_relS sc r x k
  have h':List.lookup x ((if (k₀==NameKind.free&&sc.kind== .function &&sc.names.lookup n==some .cell)=true then(n,NameKind.cell)else(n,k₀))::(r.map _))=some k:=h
  cases hx:x==n with
  | true=>
   simp only[List.lookup_cons,hx]
   by_cases hc:(k₀==NameKind.free&&sc.kind== .function &&sc.names.lookup n==some .cell)=true
   ·rw[if_pos hc]at h'
    simp only[List.lookup_cons,hx]at h'
    cases h'
    simp only[Bool.and_eq_true,beq_iff_eq]at hc
    exact⟨k₀,rfl,.inr ⟨hc.1.1,rfl⟩⟩
   ·rw[if_neg hc]at h'
    simp only[List.lookup_cons,hx]at h'
    cases h'
    exact⟨_,rfl,.inl rfl⟩
  | false=>
   simp only[List.lookup_cons,hx]
   by_cases hc:(k₀==NameKind.free&&sc.kind== .function &&sc.names.lookup n==some .cell)=true
   ·rw[if_pos hc]at h'
    simp only[List.lookup_cons,hx]at h'
    exact ih h'
   ·rw[if_neg hc]at h'
    simp only[List.lookup_cons,hx]at h'
    exact ih h'
structure BlkOk(N:List Str)(sc scope:Scope)(own:List (Str×Nat)):Prop where
 kind:scope.kind= .function
 uniq: ∀y∈scope.names,scope.names.lookup y.1=some y.2
 ix: ∀p∈own,N[p.2]? =some p.1
 free: ∀y∈scope.names,y.2= .free →sc.names.lookup y.1=some .cell ∨sc.names.lookup y.1=some .free
 own: ∀y∈scope.names,y.2= .local ∨y.2= .cell →y.1∈own.map (·.1)∨y.1∉N
def wipe(σ:St):List Nat→St
 | []=>σ
 | v::vs=>(wipe σ vs).set v none
theorem wipe_length(σ:St): ∀vs:List Nat,(wipe σ vs).length =σ.length
 | []=>rfl
 | v::vs=>by unfold wipe;rw[List.length_set,wipe_length σ vs]
theorem wipe_some{σ:St}{i:Nat}{x:V}: ∀{vs:List Nat},(wipe σ vs)[i]? =some (some x)→σ[i]? =some (some x)∧i∉vs
 | [],h=>⟨h,by simp⟩
 | v::vs,h=>by
  unfold wipe at h
  by_cases hi:v=i
  ·subst hi
   by_cases hv:v<(wipe σ vs).length
   ·rw[List.getElem?_set_self hv]at h;cases h
   ·rw[List.getElem?_eq_none (by simpa using hv)]at h;cases h
  ·rw[List.getElem?_set_ne hi]at h
   obtain⟨h1,h2⟩:=wipe_some h
   exact⟨h1,by simp only[List.mem_cons,not_or];exact⟨fun e=>hi e.symm,h2⟩⟩
abbrev Cx.blk(X:Cx)(s:Shared)(H:Hp)(scope:Scope)(cenv:Env)(fp:List Addr):Cx:={X with s_0:=s,H_0:=H,env:=cenv,outer:=X.stack,ex:=fp,fn:=fun x=>scope.names.lookup x==some .cell,pn:=[],xe:=fun _ _=>False}
section
variable {X:Cx}{pins:List (Addr×Obj)}{σ:St}{H:Hp}{s:Shared}
theorem block_start{scope:Scope}{own:List (Str×Nat)}{fp:List Addr}(I:Inv X pins σ H s)(ok:BlkOk X.N X.env.scope scope own)(hN:X.N.Nodup)(hfp: ∀b∈fp,FpOk X pins H b∧b<s.heap.objs.size):
  Inv (X.blk s H scope (compEnvC scope (cellsFrom (s.heap.objs.size+1) scope.names (cloFrom X.env.cells scope.names [])) s.heap.objs.size X.env) fp) [] (wipe σ (own.map (·.2))) H {s with heap:=pushCells (s.heap.push {cls:= .type "dict",data:= .dict #[]}) scope.names}:=by
 have hfree: ∀y∈scope.names,y.2= .free → ∃c,X.env.cells.lookup y.1=some c:=fun y hy e=>by
  rcases ok.free y hy e with k | k
  ·exact I.ok.has _ (.inl k)
  ·exact I.ok.has _ (.inr k)
 generalize hcenv:compEnvC scope (cellsFrom (s.heap.objs.size+1) scope.names (cloFrom X.env.cells scope.names [])) s.heap.objs.size X.env=cenv
 have kp: ∀b o,s.heap.get? b=some o→(pushCells (s.heap.push {cls:= .type "dict",data:= .dict #[]}) scope.names).get? b=some o:=fun b o e=>pushCells_keeps _ _ _ _ (Heap.get?_push_of_some _ e)
 have hL:cenv.locals=s.heap.objs.size:=by rw[←hcenv];rfl
 have hcl:cenv.cells=cellsFrom (s.heap.objs.size+1) scope.names (cloFrom X.env.cells scope.names []):=by rw[←hcenv];rfl
 have hsc:cenv.scope=relS scope X.env.scope:=by rw[←hcenv];rfl
 rw[←Heap.size_push s.heap {cls:= .type "dict",data:= .dict #[]}]at hcl
 have cm: ∀{y c},(y,c)∈cloFrom X.env.cells scope.names []→X.env.cells.lookup y=some c∧c<s.heap.objs.size:=fun{y c} hm=>by
  rcases cloFrom_mem hm with hm | ⟨h1,rfl⟩
  ·cases hm
  ·obtain⟨c,hc⟩:=hfree _ h1 rfl
   rw[hc]
   obtain⟨w,z⟩:=I.cell _ _ hc
   exact⟨rfl,z.lt⟩
 have mem: ∀{y c},cenv.cells.lookup y=some c→(X.env.cells.lookup y=some c∧c<s.heap.objs.size)∨(s.heap.objs.size+1≤c∧CellAt (pushCells (s.heap.push {cls:= .type "dict",data:= .dict #[]}) scope.names) c none):=fun{y c} e=>by
  rw[hcl]at e
  rcases cells_mem (PySem.mem_of_lookup e)with hm | ⟨_,h2,h3⟩
  ·exact .inl (cm hm)
  ·rw[Heap.size_push]at h2;exact .inr ⟨h2,h3⟩
 have look: ∀{y},scope.names.lookup y=some .free → ∃c,cenv.cells.lookup y=some c∧X.env.cells.lookup y=some c:=fun{y} hl=>by
  have hy:(y,NameKind.free)∈scope.names:=PySem.mem_of_lookup hl
  obtain⟨c',e'⟩:=mem_lookup (cells_acc (names:=scope.names) (n:=(s.heap.push {cls:= .type "dict",data:= .dict #[]}).objs.size) (cloFrom_has (cells:=X.env.cells) (acc:=[]) hy))
  rw[←hcl]at e'
  refine⟨c',e',?_⟩
  rw[hcl]at e'
  rcases cells_mem (PySem.mem_of_lookup e')with hm | ⟨h1,_,_⟩
  ·exact(cm hm).1
  ·have:=ok.uniq _ h1
   rw[hl]at this;cases this
 have okB:(X.blk s H scope cenv fp).Ok :=by
  refine⟨I.ok.mod,by show cenv.scope.kind=_;rw[hsc];exact ok.kind,by show cenv.globals=_;rw[←hcenv];exact I.ok.glob,by show cenv.builtins=_;rw[←hcenv];exact I.ok.blt,by show s.heap.objs.size≤cenv.locals;rw[hL];exact Nat.le_refl _,
   fun y z c e1 e2=>?_,fun y hy=>?_,fun y c z e=>?_,I.ok.hd,I.ok.frames,.inl rfl,fun b hb=>⟨?_,fun y c e z=>?_⟩,I.bs,Nat.le_trans I.ok.bsz I.sz,fun b o e hb=>?_,fun b hb z=>?_,I.stack,I.stkFree⟩
  ·have e1:cenv.cells.lookup y=some c:=e1
   have e2:cenv.cells.lookup z=some c:=e2
   rw[hcl]at e1 e2
   refine cells_inj (fun p hp=>?_) (fun y z c a b=>I.ok.inj y z c (cm a).1 (cm b).1) (PySem.mem_of_lookup e1) (PySem.mem_of_lookup e2)
   rw[Heap.size_push]
   exact Nat.lt_succ_of_lt (cm (y:=p.1) (c:=p.2) hp).2
  ·show ∃c,cenv.cells.lookup y=some c
   have key: ∀k,cenv.kindOf y=some k→(k= .cell ∨k= .free)→ ∃c,cenv.cells.lookup y=some c:=fun k hk hk'=>by
    unfold Env.kindOf at hk
    rw[hsc]at hk
    obtain⟨k',e,r⟩:=lookup_relS hk
    have:k'= .cell ∨k'= .free :=by
     rcases r with rfl | ⟨rfl,_⟩
     ·exact hk'
     ·exact .inr rfl
    rcases this with rfl | rfl
    ·obtain⟨c,hm⟩:=cells_has (n:=(s.heap.push {cls:= .type "dict",data:= .dict #[]}).objs.size) (acc:=cloFrom X.env.cells scope.names []) (PySem.mem_of_lookup e)
     obtain⟨c',e'⟩:=mem_lookup hm
     exact⟨c',by rw[hcl];exact e'⟩
    ·obtain⟨c,h1,_⟩:=look e
     exact⟨c,h1⟩
   rcases hy with hy | hy
   ·exact key _ hy (.inl rfl)
   ·exact key _ hy (.inr rfl)
  ·have z:(scope.names.lookup y==some NameKind.cell)=true:=z
   have z:scope.names.lookup y=some .cell :=by simpa using z
   have e:cenv.cells.lookup y=some c:=e
   rw[hcl]at e
   rcases cells_mem (PySem.mem_of_lookup e)with hm | ⟨_,h2,_⟩
   ·rcases cloFrom_mem hm with hm | ⟨h1,_⟩
    ·cases hm
    ·have q:=ok.uniq _ h1
     rw[z]at q;cases q
   ·rw[Heap.size_push]at h2
    exact Nat.le_of_succ_le h2
  ·show b≠cenv.locals
   rw[hL];exact Nat.ne_of_lt (hfp b hb).2
  ·have e:cenv.cells.lookup y=some c:=e
   rcases mem e with ⟨h1,_⟩ | ⟨h1,_⟩
   ·exact(hfp b hb).1.2.2.2.2.1 y c h1 z
   ·have h2:s.heap.objs.size+1≤b:=by rw[←z];exact h1
    exact absurd (Nat.lt_of_lt_of_le (hfp b hb).2 (Nat.le_of_succ_le h2)) (Nat.lt_irrefl _)
  ·rcases (hfp b hb).1.2.2.2.1 with z | z
   ·exact I.ok.noex b o e z
   ·exact absurd (Nat.lt_of_lt_of_le (Heap.lt_size e) (Nat.le_trans I.ok.bsz z)) (Nat.lt_irrefl _)
  ·rcases List.mem_cons.mp (I.stkSub b z)with z | z
   ·exact(hfp b hb).1.2.1 z
   ·exact(hfp b hb).1.2.2.1 z
 refine⟨okB,rfl,I.bare,Un.kept kp,⟨fun _=>none,?_,fun i y av e1 e2 e3=>?_⟩,fun y c e=>?_,?_,fun y c e=>?_,fun p hp=>?_,I.hok.kept kp,by rw[wipe_length];exact I.len⟩
 ·show Heap.Ns _ cenv.locals _
  rw[hL]
  exact Heap.Ns.keeps (Heap.Ns.new ..) fun b o e=>pushCells_keeps _ _ _ _ e
 ·obtain⟨e2,hne⟩:=wipe_some e2
  have hfr:scope.names.lookup y=some .free ∧(cenv.kindOf y=some .cell ∨cenv.kindOf y=some .free):=by
   have key: ∀k,cenv.scope.names.lookup y=some k→k= .local ∨k= .cell ∨k= .free →scope.names.lookup y=some .free ∧(cenv.kindOf y=some .cell ∨cenv.kindOf y=some .free):=fun k hk hk'=>by
    have hk0:=hk
    rw[hsc]at hk
    obtain⟨k',e,r⟩:=lookup_relS hk
    have no: ¬(k'= .local ∨k'= .cell):=fun hh=>by
     rcases ok.own _ (PySem.mem_of_lookup e) hh with e' | e'
     ·obtain⟨p,hp,hpy⟩:=List.mem_map.mp e'
      have e3:=ok.ix p hp
      have:p.1=y:=hpy
      rw[this]at e3
      exact hne (List.mem_map.mpr ⟨p,hp,nodup_ix hN e3 e1⟩)
     ·exact e' (List.mem_of_getElem? e1)
    rcases r with rfl | ⟨rfl,rfl⟩
    ·rcases hk' with rfl | rfl | rfl
     ·exact absurd (.inl rfl) no
     ·exact absurd (.inr rfl) no
     ·exact⟨e,.inr hk0⟩
    ·exact⟨e,.inl hk0⟩
   have e3:Vis cenv.scope y:=e3
   rcases e3 with e3 | e3 | e3
   ·exact key _ e3 (.inl rfl)
   ·exact key _ e3 (.inr (.inl rfl))
   ·exact key _ e3 (.inr (.inr rfl))
  obtain⟨m,hn,hl⟩:=I.loc
  have hvis:Vis X.env.scope y:=(ok.free _ (PySem.mem_of_lookup hfr.1) rfl).elim (fun k=> .inr (.inl k)) (fun k=> .inr (.inr k))
  obtain⟨w,r,q⟩:=hl i y av e1 e2 hvis
  refine⟨w,r,.inr ⟨hfr.2,?_⟩⟩
  obtain⟨c,h1,h2⟩:=look hfr.1
  rcases q with ⟨k,_⟩ | ⟨_,c',e',z⟩
  ·have k:X.env.scope.names.lookup y=some .local :=k
   rcases ok.free _ (PySem.mem_of_lookup hfr.1) rfl with k' | k'<;>rw[show X.env.scope.names.lookup y=_ from k']at k<;>cases k
  ·rw[h2]at e';cases e'
   exact⟨c,h1,z.keeps kp⟩
 ·have e:cenv.cells.lookup y=some c:=e
  rcases mem e with ⟨h1,_⟩ | ⟨_,z⟩
  ·obtain⟨w,z⟩:=I.cell y c h1
   exact⟨w,z.keeps kp⟩
  ·exact⟨_,z⟩
 ·show H cenv.locals=none
  rw[hL];exact I.hok.fresh (Nat.le_refl _)
 ·have e:cenv.cells.lookup y=some c:=e
  rcases mem e with ⟨h1,_⟩ | ⟨h1,_⟩
  ·exact I.freeC y c h1
  ·exact I.hok.fresh (Nat.le_of_succ_le h1)
 ·exact absurd (show p∈([]:List (Addr×Obj))++[]from hp) (by simp)
theorem app_ok{E:Value→Shared→Prop}{D:Addr}{xs:List V}{y:V}{v:Value}{Q:Value→Shared→Prop}(I:Inv X pins σ H s)(hD:H D=some (.lst xs))(hz:xs.length<sizeLine)(r:RelV y v)
  (h: ∀s',Inv X pins σ (upd H D (.lst (xs++[y]))) s'→Q .none s'):wpAny (model X.prog X.w) X.A (call (.builtin "list.append") [.ref D,v]) Q E s:=by
 obtain⟨hz',its,n,ri,e⟩:=I.hok D _ hD
 have hl:=ri.length
 refine append_at (hsz:=by rw[List.size_toArray];omega) e fun h' sb ho'=>?_
 refine h {s with heap:=h'} (I.write (t':=s.toks) (by rw[hD];trivial) (.inl rfl) (fun b u hb q=>(sb.2 b hb).trans q) ⟨_,ho'⟩ ⟨by rw[List.length_append];exact hz,its++[v],n+1,ri.append (.cons r .nil),?_⟩)
 rw[ho']
 simp
def PTs(X:Cx)(ifs:List Expr)(t:TT):Prop:=
 ∀(pins:List (Addr×Obj)) (s:Shared) (σ:St) (H:Hp) (Q:Bool→Hp→Prop),Inv X pins σ H s→t σ H Q→
  wpAny (model X.prog X.w) X.A (forIn ifs true fun c r=>if r=true then do let ok ←isTrue c X.env (eval c X.env);pure (ForInStep.yield ok)else pure (ForInStep.yield r)) (TP X pins σ Q) X.xe s
def tYes:TT:=fun _ H Q=>Q true H
theorem pts_nil:PTs X [] tYes:=fun _ _ _ H _ I h=>wpAny_tests_nil ⟨H,I,h⟩
theorem pts_one{c:Expr}{t:TT}(h:PT X c t):PTs X [c] t:=fun pins s σ H Q I hw=>wpAny_tests_one (h pins s σ H Q I hw)
end
theorem thnF{α:Type}{t:Sem α}{Q Q':α→Shared→Prop}{M:Model}{A:Around}{E:Value→Shared→Prop}{s:Shared}(h:wpAny M A t Q (fun _ _=>False) s)(hQ: ∀a s,Q a s→Q' a s):wpAny M A t Q' E s:=wpAny_mono h hQ fun _ _ z=>False.elim z
theorem compLoop_any{prog:Program}{w:World}{A:Around}{R:Result→Shared→Prop}{s:Shared}{elt target iter:Expr}{ifs:List Expr}{scope:Scope}{pos:Pos}{it acc:Value}{env:Env}(I:Nat→Shared→Prop)
  (turn: ∀n s,I n s→wpAny (model prog w) A (pyNext it) (fun r s₁=>match r with
   | none=>R (.ok .next) s₁
   | some v=>wpAny (model prog w) A (letOwnedTupleGo target it v) (fun _ s₁'=>wpAny (model prog w) A (assign target env v) (fun _ s₂=>
     wpAny (model prog w) A (forIn ifs true fun c r=>if r=true then do let ok ←isTrue c env (eval c env);pure (ForInStep.yield ok)else pure (ForInStep.yield r)) (fun ok s₃=>
      if ok=true then wpAny (model prog w) A (eval elt env) (fun x s₄=>
       wpAny (model prog w) A (call (.builtin "list.append") [acc,x]) (fun _ s₅=> ∃m,m<n∧I m s₅) (notedBy (model prog w) A env fun e s'=>R (.error e) s') s₄) (notedBy (model prog w) A env fun e s'=>R (.error e) s') s₃
      else ∃m,m<n∧I m s₃) (notedBy (model prog w) A env fun e s'=>R (.error e) s') s₂) (notedBy (model prog w) A env fun e s'=>R (.error e) s') s₁') (notedBy (model prog w) A env fun e s'=>R (.error e) s') s₁) (notedBy (model prog w) A env fun e s'=>R (.error e) s') s)
  (n:Nat)(h:I n s):
  codeAny (model prog w) A (.compLoop (.ListComp elt [⟨target,iter,ifs,0⟩] scope pos) 0 it acc env) R s:=by
 refine codeAny_loop rfl I (fun n s hI=>?_) n h
 show wpAny _ A ((compTurn (.ListComp elt [⟨target,iter,ifs,0⟩] scope pos) 0 it acc env).onRaise (fun x=>do noteFrame x env;theTreesLotGoes x)) _ _ s
 refine wpAny_noted ?_
 rw[compTurn_list]
 refine wpAny_bind (wpAny_standAt (wpAny_bind (wpAny_mono (turn n s hI) (fun r s₁ h₁=>?_) fun _ _ h'=>h')))
 cases r with
 | none=>exact wpAny_pure h₁
 | some v=>
  refine wpAny_bind (wpAny_mono h₁ (fun _ s₁' h₁'=>?_) fun _ _ h'=>h')
  refine wpAny_bind (wpAny_mono h₁' (fun _ s₂ h₂=>wpAny_bind (wpAny_mono h₂ (fun ok s₃ h₃=>?_) fun _ _ h'=>h')) fun _ _ h'=>h')
  cases ok with
  | false=>exact wpAny_pure ⟨rfl,h₃⟩
  | true=>
   exact wpAny_bind (wpAny_bind (wpAny_mono h₃ (fun x s₄ h₄=>wpAny_bind (wpAny_mono h₄ (fun _ s₅ h₅=>wpAny_pure (wpAny_pure ⟨rfl,h₅⟩)) fun _ _ h'=>h')) fun _ _ h'=>h'))
section
variable {X:Cx}
def tLc(wi:TI)(g:TG)(tt:TT)(te:TE)(vs:List Nat):TE:=fun σ H Q=>wi σ H fun J H1=> ∀D,H1 D=none→ ∃W:Nat→Nat→Hp→Prop,(∃m,W 0 m (upd H1 D (.lst [])))∧ ∀i m H,W i m H→
 (J.stop i H∧Q (.ref D) H)∨(J.go i H∧ ∃Nx:Hp→Prop,(∀H',Nx H'→ ∃m',m'<m∧W (i+1) m' H')∧ ∀x H',J.yld i H x H'→g x (wipe σ vs) H' fun σ2 H2=>wipe σ2 vs=wipe σ vs∧tt σ2 H2 fun b H3=>
  if b=true then te σ2 H3 fun y H4=> ∃acc,H4 D=some (.lst acc)∧acc.length<sizeLine∧Nx (upd H4 D (.lst (acc++[y])))else Nx H3)
theorem lc_core{pins:List (Addr×Obj)}{s:Shared}{σ:St}{H:Hp}{Q:VK}{elt tg iter:Expr}{ifs:List Expr}{scope:Scope}{own:List (Str×Nat)}{pos pos':Pos}{wi:TI}{g:TG}{tt:TT}{te:TE}{use:Option (Value→Sem Unit)}{Qf:Value→Shared→Prop}
  (hc:X.calm=true)(hN:X.N.Nodup)(I:Inv X pins σ H s)(hi:PI X tg iter wi)(ok:BlkOk X.N X.env.scope scope own)
  (hg: ∀(s:Shared) (H:Hp) (C:Addr) (cl:List (Str×Addr)) (fp:List Addr),PG (X.blk s H scope (compEnvC scope cl C X.env) fp) tg g)(ht: ∀(s:Shared) (H:Hp) (C:Addr) (cl:List (Str×Addr)) (fp:List Addr),PTs (X.blk s H scope (compEnvC scope cl C X.env) fp) ifs tt)
  (he: ∀(s:Shared) (H:Hp) (C:Addr) (cl:List (Str×Addr)) (fp:List Addr),PE (X.blk s H scope (compEnvC scope cl C X.env) fp) elt te)(hs: ∀x,foldedSetIterable iter X.env x=pure x)
  (h:tLc wi g tt te (own.map (·.2)) σ H Q)
  (hRR: ∀D C s' m H',Inv X pins σ H' s'→Q (.ref D) H'→s'.heap.Ns C m→FpOk X pins H' C→compPost (model X.prog X.w) X.A X.xe use Qf (.ref D) C (.ok .next) s'):
  wpAny (model X.prog X.w) X.A (comprehension (.ListComp elt [⟨tg,iter,ifs,0⟩] scope pos) scope X.env pos' (newList []) false (eval iter X.env) use) Qf X.xe s:=by
 have hfree: ∀y∈scope.names,y.2= .free → ∃c,X.env.cells.lookup y.1=some c:=fun y hy e=>by
  rcases ok.free y hy e with k | k
  ·exact I.ok.has _ (.inl k)
  ·exact I.ok.has _ (.inr k)
 refine wpAny_comprehension_free (use:=use) rfl hs (closure_ok hfree) ok.kind (fun y hy e=>by rw[ok.uniq y hy,e])
  (thn (hi pins s σ H _ I h) fun xv s1 hx=>thn hx fun itv s2 h2=>?_)
 obtain⟨it,fp,tn,J,H2,e,I2,T,st2,f2,q⟩:=h2
 subst e
 refine wpAny_newObj_type (newEnv_comp ?_) (by show 0≤sizeLine;decide)
 generalize hD:s2.heap.objs.size=D
 have hDn:H2 D=none:=I2.hok.fresh (Nat.le_of_eq hD)
 obtain⟨W,⟨m0,w0⟩,turn⟩:=q D hDn
 generalize hs3:({s2 with heap:=s2.heap.push {cls:= .type "list",data:= .seq ([]:List Value).toArray }}:Shared)=s3
 have I3:Inv X pins σ (upd H2 D (.lst [])) s3:=by
  rw[←hs3]
  refine I2.laid (t':=s2.toks) (fun b o e=>Heap.get?_push_of_some _ e) (Nat.le_of_eq hD) ⟨Nat.zero_le _,[],0,.nil,?_⟩
  rw[←hD]
  exact Heap.get?_push_size _ rfl
 have h3:s3.heap=s2.heap.push {cls:= .type "list",data:= .seq ([]:List Value).toArray }:=by rw[←hs3]
 have sz: ∀b∈fp,b<s2.heap.objs.size:=fun b hb=>by
  obtain⟨o,e,_⟩:=T.obj _ _ st2 b hb
  exact Heap.lt_size e
 have f3: ∀b∈fp,FpOk X pins (upd H2 D (.lst [])) b∧b<s3.heap.objs.size:=fun b hb=>by
  have hlt:=sz b hb
  refine⟨⟨?_,(f2 b hb).2⟩,by rw[h3,Heap.size_push];exact Nat.lt_succ_of_lt hlt⟩
  rw[upd_ne (by rw[←hD];exact Nat.ne_of_lt hlt)]
  exact(f2 b hb).1
 have st3:tn 0 s3.heap:=T.keep _ _ _ st2 fun b _ o e=>by rw[h3];exact Heap.get?_push_of_some _ e
 have I4:=block_start I3 ok hN f3
 have pg:=hg s3 (upd H2 D (.lst [])) s3.heap.objs.size (cellsFrom (s3.heap.objs.size+1) scope.names (cloFrom X.env.cells scope.names [])) fp
 have pt:=ht s3 (upd H2 D (.lst [])) s3.heap.objs.size (cellsFrom (s3.heap.objs.size+1) scope.names (cloFrom X.env.cells scope.names [])) fp
 have pe:=he s3 (upd H2 D (.lst [])) s3.heap.objs.size (cellsFrom (s3.heap.objs.size+1) scope.names (cloFrom X.env.cells scope.names [])) fp
 show codeAny _ _ (.compStart (.ListComp elt [⟨tg,iter,ifs,0⟩] scope pos) 0 (.ref it) (.ref D) (compEnvC scope (cellsFrom (s3.heap.objs.size+1) scope.names (cloFrom X.env.cells scope.names [])) s3.heap.objs.size X.env)) (compPost (model X.prog X.w) X.A X.xe use Qf (.ref D) s3.heap.objs.size) {s3 with heap:=pushCells (s3.heap.push {cls:= .type "dict",data:= .dict #[]}) scope.names}
 have nfp: ∀b∈fp,(upd H2 D (.lst [])) b=none:=fun b hb=>(f3 b hb).1.1
 generalize hce:compEnvC scope (cellsFrom (s3.heap.objs.size+1) scope.names (cloFrom X.env.cells scope.names [])) s3.heap.objs.size X.env=ce at I4 pg pt pe ⊢
 have cL:ce.locals=s3.heap.objs.size:=by subst hce;rfl
 generalize hH3:upd H2 D (.lst [])=H3 at I3 I4 pg pt pe w0 nfp f3
 generalize hs4:({s3 with heap:=pushCells (s3.heap.push {cls:= .type "dict",data:= .dict #[]}) scope.names}:Shared)=s4 at I4 ⊢
 have st4:tn 0 s4.heap:=T.keep _ _ _ st3 fun b _ o e=>by rw[←hs4];exact pushCells_keeps _ _ _ _ (Heap.get?_push_of_some _ e)
 have stat: ∀{σ':St} {H':Hp} {s':Shared},Inv (X.blk s3 H3 scope ce fp) [] σ' H' s'→(∀b∈fp,H' b=none)→ ∀b∈fp,FpOk (X.blk s3 H3 scope ce fp) [] H' b:=fun{σ' H' s'} I' hn b hb=>
  ⟨hn b hb,(I'.ok.exf b hb).1,I'.ok.exfs b hb,.inl hb,fun x c e=>(I'.ok.exf b hb).2 x c e,fun p hp=>absurd (show p∈([]:List (Addr×Obj))++[]from hp) (by simp)⟩
 have loop:codeAny (model X.prog X.w) X.A (.compLoop (.ListComp elt [⟨tg,iter,ifs,0⟩] scope pos) 0 (.ref it) (.ref D) ce) (compPost (model X.prog X.w) X.A X.xe use Qf (.ref D) s3.heap.objs.size) s4:=by
  refine compLoop_any (fun n s'=> ∃i H',Inv (X.blk s3 H3 scope ce fp) [] (wipe σ (own.map (·.2))) H' s'∧tn i s'.heap∧(∀b∈fp,H' b=none)∧W i n H') ?_ m0 ⟨0,H3,I4,st4,nfp,w0⟩
  rintro n s5 ⟨i,H5,I5,st5,n5,w5⟩
  rcases turn i n H5 w5 with ⟨stop,qq⟩ | ⟨go,Nx,hNx,step⟩
  ·have td:=T.done (X.blk s3 H3 scope ce fp) rfl rfl rfl hc i [] s5 _ H5 (fun _ _=>False) I5 (stat I5 n5) st5 stop
   refine thnF td fun r s6 ⟨hr,I6⟩=>?_
   subst hr
   have I7:Inv X pins σ H5 s6:=I3.call' (ch:=fp) I6.os I6.base I6.hok I6.bare fun b hb=>⟨(f3 b hb).1.2.2.2.1,(f3 b hb).1.2.1,(f3 b hb).1.2.2.2.2.1,(f3 b hb).1.2.2.2.2.2⟩
   have nC:H5 s3.heap.objs.size=none:=by
    have z:H5 ce.locals=none:=I6.free
    rw[cL]at z
    exact z
   obtain⟨m,hn,_⟩:=I6.loc
   have hn:s6.heap.Ns ce.locals m:=hn
   rw[cL]at hn
   exact hRR D s3.heap.objs.size s6 m H5 I7 qq hn (I3.fpOk (Nat.le_refl _) nC)
  ·have ti:=T.item (X.blk s3 H3 scope ce fp) rfl rfl rfl hc i [] s5 _ H5 (fun _ _=>False) I5 (stat I5 n5) st5 go
   refine thnF ti fun r s6 ⟨u,hr,h6⟩=>?_
   subst hr
   refine thnF h6 fun _ s7 ⟨x,H7,I7,r7,y7,st7,n7⟩=>?_
   have I7':=I7.pinned (stat I7 n7) (T.obj _ _ st7)
   refine thnF (pg _ s7 _ H7 x u _ I7' r7 (step x H7 y7)) fun _ s8 ⟨σ8,H8,I8,hw8,q8⟩=>?_
   refine thnF (pt _ s8 σ8 H8 _ I8 q8) fun b s9 ⟨H9,I9,q9⟩=>?_
   have fin: ∀{s':Shared} {H':Hp},Inv (X.blk s3 H3 scope ce fp) ([]++pinsAt fp s7.heap) σ8 H' s'→Nx H'→ ∃m,m<n∧ ∃i H',Inv (X.blk s3 H3 scope ce fp) [] (wipe σ (own.map (·.2))) H' s'∧tn i s'.heap∧(∀b∈fp,H' b=none)∧W i m H':=fun{s' H'} I' nx=>by
    obtain⟨m',hm,w'⟩:=hNx H' nx
    have pin': ∀b∈fp,∀o,s7.heap.get? b=some o→s'.heap.get? b=some o∧H' b=none:=fun b hb o e=>
     let z:=I'.pin (b,o) (List.mem_append_right _ (List.mem_append_right _ (mem_pinsAt hb e)))
     ⟨z.1,z.2.1⟩
    have hl:(wipe σ (own.map (·.2))).length =σ8.length:=by rw[←hw8,wipe_length]
    refine⟨m',hm,i+1,H',(I'.unpinned (pins:=[])).weak hl (fun j v e=>?_),T.keep _ _ _ st7 fun b hb o e=>(pin' b hb o e).1,fun b hb=>?_,w'⟩
    ·rw[←hw8]at e
     exact(wipe_some e).1
    ·obtain⟨o,e,_⟩:=T.obj _ _ st7 b hb
     exact(pin' b hb o e).2
   cases b with
   | false=>
    simp only[Bool.false_eq_true,if_false]at q9 ⊢
    exact fin I9 q9
   | true=>
    simp only[if_true]at q9 ⊢
    refine thnF (pe _ s9 σ8 H9 _ I9 q9) fun z s10 ⟨yv,H10,I10,r10,acc,hD10,hz10,nx⟩=>?_
    exact app_ok (X:=X.blk s3 H3 scope ce fp) I10 hD10 hz10 r10 fun s11 I11=>fin I11 nx
 exact codeAny_compStart_list loop (T.self X.A 0 _ _ _ st4 loop)
theorem pe_lc{elt tg iter:Expr}{ifs:List Expr}{scope:Scope}{own:List (Str×Nat)}{pos:Pos}{wi:TI}{g:TG}{tt:TT}{te:TE}(hc:X.calm=true)(hN:X.N.Nodup)(hi:PI X tg iter wi)(ok:BlkOk X.N X.env.scope scope own)
  (hg: ∀(s:Shared) (H:Hp) (C:Addr) (cl:List (Str×Addr)) (fp:List Addr),PG (X.blk s H scope (compEnvC scope cl C X.env) fp) tg g)(ht: ∀(s:Shared) (H:Hp) (C:Addr) (cl:List (Str×Addr)) (fp:List Addr),PTs (X.blk s H scope (compEnvC scope cl C X.env) fp) ifs tt)
  (he: ∀(s:Shared) (H:Hp) (C:Addr) (cl:List (Str×Addr)) (fp:List Addr),PE (X.blk s H scope (compEnvC scope cl C X.env) fp) elt te)(hs: ∀x,foldedSetIterable iter X.env x=pure x:=by intro _;rfl):
  PE X (.ListComp elt [⟨tg,iter,ifs,0⟩] scope pos) (tLc wi g tt te (own.map (·.2))):=by
 intro pins s σ H Q I h
 rw[eval_ListComp]
 refine lc_core hc hN I hi ok hg ht he hs h fun D C s' m H' I' q hn f=>⟨m,hn,fun h'' sb=>?_⟩
 obtain⟨f0,f1,f2,f3,f4,f5⟩:=f
 exact⟨.ref D,H',I'.turned (t':=s'.toks) (fun b o hb e=>(sb.2 b hb).trans e) f0 f1 f3 f4 f5,rfl,q⟩
theorem ps_setLc{i:Nat}{y:Str}{py:Pos}{elt tg iter:Expr}{ifs:List Expr}{scope:Scope}{own:List (Str×Nat)}{pos spos:Pos}{wi:TI}{g:TG}{tt:TT}{te:TE}(hc:X.calm=true)(hN:X.N.Nodup)(hy:X.N[i]? =some y)(hyl:X.env.scope.names.lookup y=some .local)
  (hsw:swapsWith (.ListComp elt [⟨tg,iter,ifs,0⟩] scope pos) (some (.Name y py)) spos.line X.env=pure true)(hi:PI X tg iter wi)(ok:BlkOk X.N X.env.scope scope own)
  (hg: ∀(s:Shared) (H:Hp) (C:Addr) (cl:List (Str×Addr)) (fp:List Addr),PG (X.blk s H scope (compEnvC scope cl C X.env) fp) tg g)(ht: ∀(s:Shared) (H:Hp) (C:Addr) (cl:List (Str×Addr)) (fp:List Addr),PTs (X.blk s H scope (compEnvC scope cl C X.env) fp) ifs tt)
  (he: ∀(s:Shared) (H:Hp) (C:Addr) (cl:List (Str×Addr)) (fp:List Addr),PE (X.blk s H scope (compEnvC scope cl C X.env) fp) elt te)(hs: ∀x,foldedSetIterable iter X.env x=pure x:=by intro _;rfl):
  PS X (.Assign [.Name y py] (.ListComp elt [⟨tg,iter,ifs,0⟩] scope pos) spos) (tAsg (tLc wi g tt te (own.map (·.2))) (gName i)):=by
 intro pins s σ H D I h
 rw[exec_Assign_Name_used _ _ _ _ hsw]
 refine wpAny_bind (wpAny_standAt (wpAny_bind ?_))
 show wpAny _ X.A (do let _ ←comprehension (.ListComp elt [⟨tg,iter,ifs,0⟩] scope pos) scope X.env (firstIterPos [⟨tg,iter,ifs,0⟩] pos) (newList []) false (eval iter X.env) (some (assign (.Name y py) X.env))) _ _ s
 have h:tLc wi g tt te (own.map (·.2)) σ H (fun x H1=>gName i x σ H1 D.nx):=h
 refine wpAny_bind (thn (lc_core (Qf:=fun _ s'=>SP X pins D .next s') hc hN I hi ok hg ht he hs h fun L C s' m H' I' q hn f=>?_) fun _ s' hq=>wpAny_pure (wpAny_pure hq))
 show wpAny _ _ (assign (.Name y py) X.env (.ref L)) _ _ _
 refine wpAny_assign_Name (store_ok2 (v:=V.ref L) I' hN hy (.inl hyl) rfl (fun s2 I2 ⟨a,sb,ha⟩=>?_) (.inr hyl))
 obtain⟨f0,f1,f2,f3,f4,f5⟩:=f
 have haC:C≠a:=by
  rcases ha with z | z
  ·rw[z];exact f1
  ·exact fun e=>f4 y a z e.symm
 refine⟨m,hn.sameBut sb haC,fun h3 sb3=>?_⟩
 exact⟨_,H',I2.turned (t':=s2.toks) (fun b o hb e=>(sb3.2 b hb).trans e) f0 f1 f3 f4 f5,q⟩
theorem sw_true{elt:Expr}{gs:List Comprehension}{scope:Scope}{pos py:Pos}{y:Str}{l:Nat}{env:Env}(hk:env.scope.kind= .function)(hy:env.scope.names.lookup y=some .local)(hl:(py.line==pos.line)=true)
  (ha:(scope.names.any fun(n,k)=>n==y&&(k== .local || k== .cell))=false):swapsWith (.ListComp elt gs scope pos) (some (.Name y py)) l env=pure true:=by
 have ky:env.kindOf y=some .local :=hy
 have hb:env.blockKind= .function :=by unfold Env.blockKind;rw[hk];rfl
 unfold swapsWith
 simp only[hb,ky,ha,Expr.pos,hl]
 rfl
end
theorem lc_list{K:PySem.W.Frag}{a:Addr}{xs:List V}{g:TG}{tt:TT}{te:TE}{vs:List Nat}{σ:St}{H1:Hp}{D:Addr}{Qd:Hp→Prop}(Pv:Nat→Hp→Prop)(h0:Pv 0 (upd H1 D (.lst [])))(hl: ∀i H,i≤xs.length→Pv i H→SqL K H a xs)
  (hs: ∀i x H,xs[i]? =some x→Pv i H→g x (wipe σ vs) H fun σ2 H2=>wipe σ2 vs=wipe σ vs∧tt σ2 H2 fun b H3=>
   if b=true then te σ2 H3 fun y H4=> ∃acc,H4 D=some (.lst acc)∧acc.length<sizeLine∧Pv (i+1) (upd H4 D (.lst (acc++[y])))else Pv (i+1) H3)(hd: ∀H,Pv xs.length H→Qd H):
  ∃W:Nat→Nat→Hp→Prop,(∃m,W 0 m (upd H1 D (.lst [])))∧ ∀i m H,W i m H→
   ((Itl K a).stop i H∧Qd H)∨((Itl K a).go i H∧ ∃Nx:Hp→Prop,(∀H',Nx H'→ ∃m',m'<m∧W (i+1) m' H')∧ ∀x H',(Itl K a).yld i H x H'→g x (wipe σ vs) H' fun σ2 H2=>wipe σ2 vs=wipe σ vs∧tt σ2 H2 fun b H3=>
    if b=true then te σ2 H3 fun y H4=> ∃acc,H4 D=some (.lst acc)∧acc.length<sizeLine∧Nx (upd H4 D (.lst (acc++[y])))else Nx H3):=by
 refine⟨fun i m H=>m=xs.length-i∧i≤xs.length∧Pv i H,⟨xs.length,by simp,Nat.zero_le _,h0⟩,?_⟩
 rintro i m H ⟨rfl,hi,p⟩
 have q:=hl i H hi p
 by_cases hlt:i<xs.length
 ·refine .inr ⟨⟨xs,xs[i],q,by simp[hlt]⟩,Pv (i+1),fun H' p'=>⟨xs.length-(i+1),by omega,rfl,hlt,p'⟩,fun x H' y=>?_⟩
  obtain⟨e,y⟩:=y
  subst e
  exact hs i x _ (y xs q) p
 ·have e:i=xs.length:=by omega
  subst e
  exact .inl ⟨⟨xs,q,Nat.le_refl _⟩,hd H p⟩
section
variable {κ:Type} [DecidableEq κ]
def valV(kvs:List (κ×V))(k:κ):Option V:=(kvs.find? fun kv=>decide (kv.1=k)).map (·.2)
theorem valV_pos{p:κ×V}{r:List (κ×V)}{k:κ}(e:p.1=k):valV (p::r) k=some p.2:=by simp[valV,List.find?_cons,e]
theorem valV_neg{p:κ×V}{r:List (κ×V)}{k:κ}(e: ¬p.1=k):valV (p::r) k=valV r k:=by simp[valV,List.find?_cons,e]
theorem RelO.getD{o:Option V}{u:Option Value}{d:V}{d':Value}(r:RelO o u)(rd:RelV d d'):RelV (o.getD d) (u.getD d'):=by
 cases o with
 | none=>cases u with
  | none=>exact rd
  | some _=>exact(show False from r).elim
 | some _=>cases u with
  | none=>exact(show False from r).elim
  | some _=>exact r
theorem KV.val{kvs:List (κ×V)}{vs:List (κ×Value)}(r:KV kvs vs)(k:κ):RelO (valV kvs k) (valueAt vs k):=by
 unfold KV at r
 induction r with
 | nil=>exact True.intro
 | @cons p q ps qs h t ih=>
  obtain⟨h1,h2⟩:=h
  by_cases e:p.1=k
  ·have e':q.1=k:=h1.symm.trans e
   have b:valueAt (q::qs) k=some q.2:=by simp[valueAt,List.find?_cons,e']
   rw[valV_pos e,b];exact h2
  ·have e': ¬q.1=k:=fun z=>e (h1.trans z)
   have b:valueAt (q::qs) k=valueAt qs k:=by simp[valueAt,List.find?_cons,e']
   rw[valV_neg e,b];exact ih
end
theorem kV_is{P:Program}{w:World}{k:Key}{u:Value}(r:RelV (kV k) u):(mixKind P w).is k u=true:=by
 cases k with
 | inl i=>obtain⟨t,e⟩:=(show ∃t,u=Value.int i t from r);subst e;exact mixKind_int P w i t
 | inr x=>obtain⟨t,e⟩:=(show ∃t,u=Value.str x t from r);subst e;exact mixKind_str P w x t
def NoSl(i:Expr):Prop:= ∀ov iv,subscripted i false ov iv=operate [ov,iv] (getItem ov iv)
theorem subD_of{prog:Program}{w:World}{A:Around}{E:Value→Shared→Prop}{s:Shared}{env:Env}{value slice:Expr}{pos:Pos}{T id:String}{Q:Value→Shared→Prop}
  (hl:typeLookup (.type T) "__getitem__"=pure (some (.builtin id)))(hs:NoSl slice)
  (h:wpAny (model prog w) A (eval value env) (fun o s₁=>wpAny (model prog w) A (eval slice env) (fun i s₂=>s₂.TypeIs o T∧wpAny (model prog w) A (getItem o i) Q E s₂) E s₁) E s):
  wpAny (model prog w) A (eval (.Subscript value slice pos) env) Q E s:=by
 refine Subscript_ (wpAny_mono h (fun o s₁ h₁=>wpAny_mono h₁ (fun i s₂ h₂=>?_) fun _ _ x=>x) fun _ _ x=>x)
 obtain⟨hT,h₂⟩:=h₂
 unfold subscriptTail
 refine wpAny_bind ?_
 rw[getitemInPython_of_ne hT.not_modules]
 refine wpAny_bind (wpAny_specialOf hT hl ?_)
 have fin:wpAny (model prog w) A (subscripted slice false o i) (fun r s₃=>wpAny (model prog w) A (letTemporaryGo value o r>>=fun _=>pure r) Q E s₃) E s₂:=by
  rw[hs o i]
  exact wpAny_operating (wpAny_mono h₂ (fun r s₃ h₃=>wpAny_bind (wpAny_letTemporaryGo (wpAny_pure h₃))) fun _ _ x=>x)
 first
  | exact wpAny_pure (wpAny_bind fin)
  | exact wpAny_bind (wpAny_pure (wpAny_bind fin))
  | exact wpAny_bind fin
structure M2(X:Cx)(o:Expr)(m:Str)(apos:Pos)(e f:Expr)(cpos:Pos):Prop where
 base:attributeBase o m X.env (eval o X.env)=eval o X.env
 few:((backTo cpos (starEach [e,f] X.env)).all (fun x=> !x.1)&&(backToKw cpos (keywordEach [] X.env)).all (fun x=>x.1.isSome)
  &&decide (([e,f]:List Expr).length +([]:List Keyword).length +(if ([]:List Keyword).isEmpty then 0 else 1)<30))=true
 line:(apos.endLine==cpos.line)=true
 trees:backTo cpos (starEach [e,f] X.env)=[(false,eval e X.env),(false,eval f X.env)]
section
variable {X:Cx}{pins:List (Addr×Obj)}{σ:St}{H:Hp}{s:Shared}{h':Heap}
theorem Inv.turnedL{t':Nat}{ch:List Addr}(I:Inv X pins σ H s)(k: ∀b o,b∉ch→s.heap.get? b=some o→h'.get? b=some o)(hf: ∀b∈ch,FpOk X pins H b):Inv X pins σ H {s with heap:=h',toks:=t'}:=by
 have nit: ∀b u,H b=some u→b∉ch:=fun b u e z=>by
  have q:=(hf b z).1
  rw[q]at e;cases e
 refine I.step (g':=s.gens) (d':=s.drawn) (ch:=ch) (fun b hb=>⟨(hf b hb).2.2.2.1,(hf b hb).2.1,(hf b hb).2.2.2.2.1,(hf b hb).2.2.2.2.2⟩) (fun b o _ _ hc e _=>k b o hc e) (fun b o _ _ hc e _=>⟨o.slots,k b o hc e⟩)
  (fun _ _ _ _ n=>n) (fun b o hc e=>⟨o,k b o hc e⟩) (fun _ _ e=>e) (fun _ _ _ e=>e) (fun b ps e=>⟨#[],by rw[e];simp⟩) (fun m hm=>?_) (fun b u e=>?_) I.bare
 ·obtain⟨o,es,ep,ho,r⟩:=hm
  exact⟨o,es,ep,k _ o (fun z=>(hf _ z).2.1 rfl) ho,r⟩
 ·refine(I.hok b u e).stay (fun c v hc q=>k c v ?_ q) (fun _ q=>q) fun _ _ q=>q
  rcases hc with z | z
  ·rw[z];exact nit b u e
  ·exact nit c _ z
theorem Inv.turnedNew{t':Nat}{ch:List Addr}{T:Addr}{ob:HO}(I:Inv X pins σ H s)(k: ∀b o,b∉ch→s.heap.get? b=some o→h'.get? b=some o)(hf: ∀b∈ch,FpOk X pins H b)(hT:s.heap.objs.size≤T)
  (new:ObjOk X.prog X.w (upd H T ob) h' T ob):Inv X pins σ (upd H T ob) {s with heap:=h',toks:=t'}:=by
 have hn:H T=none:=I.hok.fresh hT
 have nit: ∀b u,H b=some u→b∉ch:=fun b u e z=>by
  have q:=(hf b z).1
  rw[q]at e;cases e
 refine I.step (g':=s.gens) (d':=s.drawn) (ch:=ch) (fun b hb=>⟨(hf b hb).2.2.2.1,(hf b hb).2.1,(hf b hb).2.2.2.2.1,(hf b hb).2.2.2.2.2⟩) (fun b o _ _ hc e _=>k b o hc e) (fun b o _ _ hc e _=>⟨o.slots,k b o hc e⟩)
  (fun b o _ e n=>?_) (fun b o hc e=>⟨o,k b o hc e⟩) (fun b xs e=>?_) (fun b o u e=>?_) (fun b ps e=>⟨#[],?_⟩) (fun m hm=>?_) (fun b u e=>?_) I.bare
 ·rw[upd_ne (Nat.ne_of_lt (Nat.lt_of_lt_of_le (Heap.lt_size e) hT))];exact n
 ·rw[upd_ne (ne_of_none e hn)];exact e
 ·rw[upd_ne (ne_of_none e hn)];exact e
 ·rw[upd_ne (ne_of_none e hn),e];simp
 ·obtain⟨o,es,ep,ho,r⟩:=hm
  exact⟨o,es,ep,k _ o (fun z=>(hf _ z).2.1 rfl) ho,r⟩
 ·by_cases hb:b=T
  ·subst hb
   rw[upd_same]at e
   cases e
   exact new
  ·rw[upd_ne hb]at e
   refine(I.hok b u e).stay (fun c v hc q=>k c v ?_ q) (fun c q=>by rw[upd_ne (ne_of_none q hn)];exact q) fun c xs q=>by rw[upd_ne (ne_of_none q hn)];exact q
   rcases hc with z | z
   ·rw[z];exact nit b u e
   ·exact nit c _ z
end
theorem paired_get{α β:Type}{G:α→β→Prop}{l₁:List α}{l₂:List β}(h:Paired G l₁ l₂): ∀{i:Nat} {a:α},l₁[i]? =some a→ ∃b,l₂[i]? =some b∧G a b:=by
 induction h with
 | nil=>intro i a e;simp at e
 | @cons a b l₁ l₂ r t ih=>
  intro i a' e
  cases i with
  | zero=>
   simp only[List.getElem?_cons_zero,Option.some.injEq]at e
   subst e
   exact⟨b,rfl,r⟩
  | succ j=>
   simp only[List.getElem?_cons_succ]at e ⊢
   exact ih e
def Ite(K:PySem.W.Frag)(a:Addr):It:=
 ⟨fun i H=> ∃(xs:List V) (x:V),SqL K H a xs∧xs[i]? =some x,fun i H v H'=> ∃T x,v= .ref T∧H T=none∧H'=upd H T (.tup [.int (i:Nat),x])∧ ∀xs,SqL K H a xs→xs[i]? =some x,fun i H=> ∃xs:List V,SqL K H a xs∧xs.length≤i⟩
theorem turn_enum{P:Program}{w:World}{K:PySem.W.Frag}{elts:List Expr}{kk:Nat}{tpos:Pos}(a e it:Addr):
  Turn P w K (.Tuple elts kk tpos) (Ite K a) [e,it] e (fun i h=>(∃old,IsEnum h e it ((i:Nat):Int) old)∧h.IsListIter it a i∧e≠it) where
 mem:=by simp
 obj:=fun i h st b hb=>by
  obtain⟨⟨old,he⟩,⟨o,ho,hc,hd⟩,_⟩:=st
  have e':b=e∨b=it:=by simpa using hb
  rcases e' with z | z
  ·rw[z];exact⟨_,he,fun v q=>nomatch q⟩
  ·rw[z];exact⟨o,ho,fun v q=>by rw[hd]at q;cases q⟩
 keep:=fun i h h' st k=>let ⟨⟨old,he⟩,hi,hne⟩:=st;⟨⟨old,k e (by simp) _ he⟩,hi.at fun o q=>k it (by simp) o q,hne⟩
 item:=by
  intro X hP hw hK hc i pins s σ H E I hf st hg
  subst hP hw hK
  obtain⟨⟨old,he⟩,hit,hne⟩:=st
  obtain⟨xs,x,hq,hx⟩:=hg
  obtain⟨its,rv,p,hz⟩:=I.list hq
  obtain⟨u,hu,ru⟩:=rv.get hx
  have hel:e<s.heap.objs.size:=Heap.lt_size he
  have hil:it<s.heap.objs.size:=by obtain⟨_,q,_⟩:=hit;exact Heap.lt_size q
  refine wpAny_pyNext_enum_item he hit p.isList (x:=u) (by simpa using hu) hne fun h' ho hit' hT hsz hk=>?_
  refine⟨_,rfl,wpAny_letOwnedTupleGo_enum (s:={s with heap:=h',toks:=s.toks+1}) ho fun h'' he' sb=>?_⟩
  have hT2:h''.get? s.heap.objs.size=some {cls:= .type "tuple",data:= .seq #[.int i s.toks,u]}:=(sb.2 _ (Nat.ne_of_gt hel)).trans hT
  have new:ObjOk X.prog X.w (upd H s.heap.objs.size (.tup [.int (i:Nat),x])) h'' s.heap.objs.size (.tup [.int (i:Nat),x]):=
   ⟨by show 2≤sizeLine;decide,[.int i s.toks,u],.cons ⟨_,rfl⟩ (.cons ru .nil),⟨_,hT2,rfl,_,rfl⟩⟩
  have I1:Inv X pins σ (upd H s.heap.objs.size (.tup [.int (i:Nat),x])) {s with heap:=h'',toks:=s.toks+1}:=
   I.turnedNew (ch:=[e,it]) (fun b ob hb q=>(sb.2 b (fun z=>hb (by simp[z]))).trans (hk b ob (fun z=>hb (by simp[z])) (fun z=>hb (by simp[z])) q)) hf (Nat.le_refl _) new
  refine⟨.ref s.heap.objs.size,_,I1,rfl,⟨_,x,rfl,I.hok.fresh (Nat.le_refl _),rfl,fun ys hy=>by rw[I.list_inj hy hq];exact hx⟩,⟨⟨u,?_⟩,hit'.at fun o q=>(sb.2 it (Ne.symm hne)).trans q,hne⟩,fun b hb=>?_⟩
  ·have e1:((i+1:Nat):Int)=(i:Int)+1:=by omega
   rw[e1];exact he'
  ·have hb':b<s.heap.objs.size:=by
    have e':b=e∨b=it:=by simpa using hb
    rcases e' with z | z
    ·rw[z];exact hel
    ·rw[z];exact hil
   rw[upd_ne (Nat.ne_of_lt hb')]
   exact(hf b hb).1
 done:=by
  intro X hP hw hK hc i pins s σ H E I hf st hg
  subst hP hw hK
  obtain⟨⟨old,he⟩,hit,hne⟩:=st
  obtain⟨xs,hq,hx⟩:=hg
  obtain⟨its,rv,p,hz⟩:=I.list hq
  obtain⟨f0,f1,f2,f3,f4,f5⟩:=hf it (by simp)
  have hl:=rv.length
  exact wpAny_pyNext_enum_end (I.ok.hd hc) he hit p.isList (by simp;omega) fun h' eb=>⟨rfl,I.turned (t':=s.toks) (fun b o hb q=>eb b o hb q) f0 f1 f3 f4 f5⟩
 self:=fun A i s Q E st h=>let ⟨⟨_,he⟩,_⟩:=st;wpAny_pyIter_enum he h
def iEnum(K:PySem.W.Frag)(ta:TA):TI:=fun σ H R=>ta σ H fun vs H1=> ∃a xs,vs=[.ref a]∧SqL K H1 a xs∧R (Ite K a) H1
theorem pi_enum{X:Cx}{e:Expr}{ta:TA}{p pos tpos:Pos}{elts:List Expr}{kk:Nat}(hg:Gl X "enumerate")(hm:X.mg "enumerate"=none)(ha:PA X [e] ta)(hs:starEach [e] X.env=[(false,eval e X.env)]:=by rfl):
  PI X (.Tuple elts kk tpos) (.Call (.Name "enumerate" p) [e] [] pos) (iEnum X.K ta):=by
 intro pins s σ H R I h
 refine Call_ (ld_blt I hg hm boot_enumerate (PyProof.Rows.callWith_type1 (thn (ha pos pins s σ H _ I h) fun us s1 ⟨vs,H1,I1,r1,q1⟩=>?_) hs rfl))
 obtain⟨a,xs,ex,hq,q⟩:=q1
 subst ex
 cases r1 with
 | cons r rr=>
  cases rr
  cases r
  obtain⟨its,rv,p',hz⟩:=I1.list hq
  refine call_enumerate_list p'.isList fun h' he hit hsz hk=>wpAny_pyIter_enum he ?_
  have I2:Inv X pins σ H1 {s1 with heap:=h'}:=I1.kept (t':=s1.toks) hk
  refine⟨s1.heap.objs.size+1,[s1.heap.objs.size+1,s1.heap.objs.size],_,_,H1,rfl,I2,turn_enum a (s1.heap.objs.size+1) s1.heap.objs.size,⟨⟨.none,he⟩,hit,Nat.succ_ne_self _⟩,fun b hb=>?_,q⟩
  have e':b=s1.heap.objs.size+1∨b=s1.heap.objs.size:=by simpa using hb
  have hle:s1.heap.objs.size≤b:=by
   rcases e' with z | z
   ·rw[z];exact Nat.le_add_right _ _
   ·rw[z];exact Nat.le_refl _
  exact I1.fpOk hle (I1.hok.fresh hle)
theorem boot_zip5:bootBuiltins "zip"=some (.type "zip"):=by decide +kernel
def Itz(K:PySem.W.Frag)(a b:Addr):It:=
 ⟨fun i H=> ∃(xs ys:List V) (x y:V),SqL K H a xs∧SqL K H b ys∧xs[i]? =some x∧ys[i]? =some y,
  fun i H v H'=> ∃T x y,v= .ref T∧H T=none∧H'=upd H T (.tup [x,y])∧(∀xs,SqL K H a xs→xs[i]? =some x)∧ ∀ys,SqL K H b ys→ys[i]? =some y,
  fun i H=> ∃xs ys:List V,SqL K H a xs∧SqL K H b ys∧(xs.length≤i∨ys.length≤i)⟩
theorem turn_zip{P:Program}{w:World}{K:PySem.W.Frag}{elts:List Expr}{kk:Nat}{tpos:Pos}{a b z TI TO i1 i2:Addr}(D:ZipApart z TI TO i1 i2 a b):
  Turn P w K (.Tuple elts kk tpos) (Itz K a b) [z,TI,TO,i1,i2] z (fun i h=>IsZip h z TI TO .none ∧IsPair h TI (.ref i1) (.ref i2)∧(∃x y,IsPair h TO x y)∧h.IsListIter i1 a i∧h.IsListIter i2 b i) where
 mem:=by simp
 obj:=fun i h st c hc=>by
  obtain⟨hz,hTI,⟨x,y,hTO⟩,⟨o1,e1,_,d1⟩,⟨o2,e2,_,d2⟩⟩:=st
  have e':c=z∨c=TI∨c=TO∨c=i1∨c=i2:=by simpa using hc
  rcases e' with q | q | q | q | q
  ·rw[q];exact⟨_,hz,fun v q=>nomatch q⟩
  ·rw[q];exact⟨_,hTI,fun v q=>nomatch q⟩
  ·rw[q];exact⟨_,hTO,fun v q=>nomatch q⟩
  ·rw[q];exact⟨o1,e1,fun v q=>by rw[d1]at q;cases q⟩
  ·rw[q];exact⟨o2,e2,fun v q=>by rw[d2]at q;cases q⟩
 keep:=fun i h h' st k=>by
  obtain⟨hz,hTI,⟨x,y,hTO⟩,h1,h2⟩:=st
  exact⟨k z (by simp) _ hz,k TI (by simp) _ hTI,⟨x,y,k TO (by simp) _ hTO⟩,h1.at fun o q=>k i1 (by simp) o q,h2.at fun o q=>k i2 (by simp) o q⟩
 item:=by
  intro X hP hw hK hc i pins s σ H E I hf st hg
  subst hP hw hK
  obtain⟨hz,hTI,⟨x0,y0,hTO⟩,h1,h2⟩:=st
  obtain⟨xs,ys,x,y,hqx,hqy,hx,hy⟩:=hg
  obtain⟨its,rv,p,_⟩:=I.list hqx
  obtain⟨its2,rv2,p2,_⟩:=I.list hqy
  obtain⟨u,hu,ru⟩:=rv.get hx
  obtain⟨u2,hu2,ru2⟩:=rv2.get hy
  have hzl:z<s.heap.objs.size:=Heap.lt_size hz
  refine wpAny_pyNext_zip_item D hz hTI hTO h1 h2 p.isList p2.isList (x:=u) (y:=u2) (by simpa using hu) (by simpa using hu2) fun h' z' TO' h1' h2' hT hsz hk=>?_
  refine⟨_,rfl,wpAny_letOwnedTupleGo_zip (s:={s with heap:=h'}) z' fun h'' z'' sb=>?_⟩
  have hT2:h''.get? s.heap.objs.size=some {cls:= .type "tuple",data:= .seq #[u,u2]}:=(sb.2 _ (Nat.ne_of_gt hzl)).trans hT
  have new:ObjOk X.prog X.w (upd H s.heap.objs.size (.tup [x,y])) h'' s.heap.objs.size (.tup [x,y]):=
   ⟨by show 2≤sizeLine;decide,[u,u2],.cons ru (.cons ru2 .nil),⟨_,hT2,rfl,_,rfl⟩⟩
  have I1:Inv X pins σ (upd H s.heap.objs.size (.tup [x,y])) {s with heap:=h''}:=
   I.turnedNew (t':=s.toks) (ch:=[z,TI,TO,i1,i2]) (fun c o hb q=>(sb.2 c (fun q'=>hb (by simp[q']))).trans (hk c o (fun q'=>hb (by simp[q'])) (fun q'=>hb (by simp[q'])) (fun q'=>hb (by simp[q'])) (fun q'=>hb (by simp[q'])) q)) hf (Nat.le_refl _) new
  refine⟨.ref s.heap.objs.size,_,I1,rfl,⟨_,x,y,rfl,I.hok.fresh (Nat.le_refl _),rfl,fun l hl=>by rw[I.list_inj hl hqx];exact hx,fun l hl=>by rw[I.list_inj hl hqy];exact hy⟩,⟨z'',?_,⟨u,u2,?_⟩,?_,?_⟩,fun c hcm=>?_⟩
  ·exact(sb.2 _ D.TIz).trans (hk _ _ D.TIz D.TITO D.TIi1 D.TIi2 hTI)
  ·exact(sb.2 _ D.TOz).trans TO'
  ·exact h1'.at fun o q=>(sb.2 _ D.i1z).trans q
  ·exact h2'.at fun o q=>(sb.2 _ D.i2z).trans q
  ·have hlt:c<s.heap.objs.size:=by
    have e':c=z∨c=TI∨c=TO∨c=i1∨c=i2:=by simpa using hcm
    rcases e' with q | q | q | q | q
    ·rw[q];exact hzl
    ·rw[q];exact Heap.lt_size hTI
    ·rw[q];exact Heap.lt_size hTO
    ·rw[q];obtain⟨_,e1,_⟩:=h1;exact Heap.lt_size e1
    ·rw[q];obtain⟨_,e2,_⟩:=h2;exact Heap.lt_size e2
   rw[upd_ne (Nat.ne_of_lt hlt)]
   exact(hf c hcm).1
 done:=by
  intro X hP hw hK hc i pins s σ H E I hf st hg
  subst hP hw hK
  obtain⟨hz,hTI,⟨x0,y0,hTO⟩,h1,h2⟩:=st
  obtain⟨xs,ys,hqx,hqy,hend⟩:=hg
  obtain⟨its,rv,p,_⟩:=I.list hqx
  obtain⟨its2,rv2,p2,_⟩:=I.list hqy
  have l1:=rv.length
  have l2:=rv2.length
  have he:its.toArray[i]? =none∨its2.toArray[i]? =none:=by
   rcases hend with q | q
   ·exact .inl (by simp;omega)
   ·exact .inr (by simp;omega)
  exact wpAny_pyNext_zip_end (I.ok.hd hc) D hz hTI hTO h1 h2 p.isList p2.isList he fun h' hk=>⟨rfl,I.turnedL (t':=s.toks) (ch:=[z,TI,TO,i1,i2]) (fun c o hb q=>
   hk c o (fun q'=>hb (by simp[q'])) (fun q'=>hb (by simp[q'])) (fun q'=>hb (by simp[q'])) (fun q'=>hb (by simp[q'])) q) hf⟩
 self:=fun A i s Q E st h=>wpAny_pyIter_zip st.1 h
def iZip(K:PySem.W.Frag)(ta:TA):TI:=fun σ H R=>ta σ H fun vs H1=> ∃a b xs ys,vs=[.ref a,.ref b]∧SqL K H1 a xs∧SqL K H1 b ys∧R (Itz K a b) H1
theorem pi_zip{X:Cx}{e e2:Expr}{ta:TA}{p pos tpos:Pos}{elts:List Expr}{kk:Nat}(hg:Gl X "zip")(hm:X.mg "zip"=none)(ha:PA X [e,e2] ta)
  (hs:starEach [e,e2] X.env=(false,eval e X.env)::starEach [e2] X.env:=by rfl)(hpl:(backTo pos (starEach [e2] X.env)).any (·.1)=false:=by rfl):
  PI X (.Tuple elts kk tpos) (.Call (.Name "zip" p) [e,e2] [] pos) (iZip X.K ta):=by
 intro pins s σ H R I h
 refine Call_ (ld_blt I hg hm boot_zip5 (PyProof.Rows.callWith_type1 (thn (ha pos pins s σ H _ I h) fun us s1 ⟨vs,H1,I1,r1,q1⟩=>?_) hs hpl))
 obtain⟨a,b,xs,ys,ex,hqx,hqy,q⟩:=q1
 subst ex
 cases r1 with
 | cons r rr=>
  cases rr with
  | cons r' rr=>
   cases rr
   cases r
   cases r'
   obtain⟨its,rv,p1,_⟩:=I1.list hqx
   obtain⟨its2,rv2,p2,_⟩:=I1.list hqy
   have la:a<s1.heap.objs.size:=p1.lt
   have lb:b<s1.heap.objs.size:=p2.lt
   refine call_zip_2 p1.isList p2.isList fun h' hz hTI hTO h1 h2 hsz hk=>wpAny_pyIter_zip hz ?_
   have I2:Inv X pins σ H1 {s1 with heap:=h'}:=I1.kept (t':=s1.toks) hk
   refine⟨s1.heap.objs.size+4,[s1.heap.objs.size+4,s1.heap.objs.size+2,s1.heap.objs.size+3,s1.heap.objs.size,s1.heap.objs.size+1],_,_,H1,rfl,I2,turn_zip (PySem.W.ktu_apart s1.heap.objs.size a b la lb),⟨hz,hTI,⟨_,_,hTO⟩,h1,h2⟩,fun c hcm=>?_,q⟩
   have e':c=s1.heap.objs.size+4∨c=s1.heap.objs.size+2∨c=s1.heap.objs.size+3∨c=s1.heap.objs.size∨c=s1.heap.objs.size+1:=by simpa using hcm
   have hle:s1.heap.objs.size≤c:=by
    rcases e' with z | z | z | z | z
    ·rw[z];exact Nat.le_add_right _ _
    ·rw[z];exact Nat.le_add_right _ _
    ·rw[z];exact Nat.le_add_right _ _
    ·rw[z];exact Nat.le_refl _
    ·rw[z];exact Nat.le_add_right _ _
   exact I1.fpOk hle (I1.hok.fresh hle)
end L2
section
namespace Bits
open PySem PyProof.Rows
theorem bitOr_pp{x y:Int}(hx:0≤x)(hy:0≤y):Builtin.bitOr x y=((x.toNat ||| y.toNat:Nat):Int):=by
 have e:=nat_or_add_and x.toNat y.toNat
 rw[bitOr_and,bitAnd_pp hx hy]
 omega
end Bits
end
section
namespace TL
open PySem PySem.Builtin PySem.Builtin.Str PySem.StrLaws
abbrev tl(x:Str):List Nat:=x.cps.toList
end TL
end
namespace Att
open PySem PySem.W PySem.Calls PyProof.Rows
section
variable {prog:Program}{w:World}{A:Around}{E:Value→Shared→Prop}{s:Shared}{K:Frag}
def noObjs(h:Heap):Heap:={h with objs:= #[]}
theorem noObjs_get(h:Heap)(b:Addr):(noObjs h).get? b=none:=by
 cases e:(noObjs h).get? b with
 | none=>rfl
 | some o=>exact absurd (Heap.lt_size e) (Nat.not_lt_zero _)
def ledger(h:Heap)(L d:Addr):List (Addr×Obj):=(List.range h.objs.size).filterMap fun a=>if a=L∨a=d then none else(h.get? a).map fun o=>(a,o)
theorem mem_ledger{h:Heap}{L d a:Addr}{o:Obj}:(a,o)∈ledger h L d↔a≠L∧a≠d∧h.get? a=some o:=by
 unfold ledger
 rw[List.mem_filterMap]
 constructor
 ·rintro⟨b,_,e⟩
  split at e
  ·cases e
  ·rename_i hb
   obtain⟨o',ho,e'⟩:=Option.map_eq_some_iff.mp e
   cases e'
   exact⟨fun q=>hb (.inl q),fun q=>hb (.inr q),ho⟩
 ·rintro⟨n1,n2,ho⟩
  refine⟨a,List.mem_range.mpr (Heap.lt_size ho),?_⟩
  rw[if_neg (show ¬(a=L∨a=d)from fun q=>q.elim n1 n2),ho]<;>rfl
theorem fr_all{h:Heap}{L:Addr}{m:Str→Option Value}(n:h.Ns L m):Fr (noObjs h) L h m:=
 ⟨n,fun b o e=>(by rw[noObjs_get]at e;cases e),Nat.zero_le _⟩
end
end Att
namespace L2
open PySem PySem.Spec PyProof.Rows
theorem vals_ints: ∀{vs:List Value} {ns:List Int},IntsAre vs ns→Vals (ns.map V.int) vs
 | _,_,.nil => .nil
 | _,_,.cons n t h=> .cons ⟨t,rfl⟩ (vals_ints h)
def inClass(s:Stmt)(j:Nat):Stmt:=match s with
 | .ClassDef _ _ _ body _ _ _ _ _ _ _=>body.getD j (.Pass ⟨0,0,0,0⟩)
 | _=> .Pass ⟨0,0,0,0⟩
def defArgs(s:Stmt):Arguments:=match s with
 | .FunctionDef _ a _ _ _ _ _ _ _ _=>a
 | _=>{posonlyargs:=[],args:=[],vararg:=none,kwonlyargs:=[],kw_defaults:=[],kwarg:=none,defaults:=[]}
def defBody(s:Stmt):List Stmt:=match s with
 | .FunctionDef _ _ b _ _ _ _ _ _ _=>b
 | _=>[]
def defScope(s:Stmt):Scope:=match s with
 | .FunctionDef _ _ _ _ _ _ sc _ _ _=>sc
 | _=>{kind:= .function,names:=[],isGenerator:=false,isCoroutine:=false}
abbrev CX0:CXT:=fun _ _ _ _ _ _=>False
abbrev E0:XK:=fun _ _ _=>False
theorem pass0{X:Cx}:Passes CX0 X E0:=fun _ _ _ _ _ _ _ h=>h.elim
structure Fun(K:PySem.W.Frag)(x qual:Str)(st:Stmt)(f:Addr)(fd:FuncData):Prop where
 ex: ∃(oc:Value) (od:Option Addr) (kV doc pm:Value) (an:Option Addr) (cdv ct:Value) (osl:Array (Option Value)),
  fd=PySem.W.fnOf x qual (defArgs st) (defBody st) (defScope st) .none kV doc pm an cdv ct∧K.lookup f=some ⟨oc,od,.func fd,osl⟩∧PySem.W.codeIn K cdv qual=true
 kp:PySem.W.keepIn K (.ref f)=true
section
variable {P:Program}{w:World}{K:PySem.W.Frag}{mg:Str→Option Value}{base:Heap}
theorem Fun.ok{x qual:Str}{st:Stmt}{f:Addr}{fd:FuncData}{N ps:List Str}{k:Nat}{sp:Sp}(F:Fun K x qual st f fd)(S:FnScope N ps (defScope st))(len: ∀vs H Q E,sp vs H Q E→vs.length=ps.length)
  (hbody: ∀(cdv:Value) (A:Around) (outer:List Env) (s:Shared) (H:Hp) (vs:List V) (Q:VK) (E:XK),Room k (A.deeper (envOfC qual (defScope st) s.heap.objs.size f cdv))→sp vs H Q E→
   ∃t,PSs (cxOf CX0 P w K mg base N qual (defScope st) f cdv A outer s H E).nox (defBody st) t∧t {nx:=fun _ H'=>Q .non H',rt:=Q} (start N vs) H):FnOk P w K mg base CX0 (k+1) f fd ps sp:=by
 obtain⟨oc,od,kV,doc,pm,an,cdv,ct,osl,rfl,lk,hcd⟩:=F.ex
 refine fn_of lk hcd S len fun A outer s H vs Q E hr hsp=>?_
 obtain⟨t,h,q⟩:=hbody cdv A outer s H vs Q E hr hsp
 exact⟨t,h.nox,q⟩
theorem Fun.binds{x qual:Str}{st:Stmt}{f:Addr}{fd:FuncData}{ps:List Str}(F:Fun K x qual st f fd)
  (h: ∀(kV doc pm:Value) (an:Option Addr) (cdv ct:Value) (us:List Value),us.length=ps.length→bindArgs (PySem.W.fnOf x qual (defArgs st) (defBody st) (defScope st) .none kV doc pm an cdv ct) ⟨us,[]⟩=pure (ps.zip us)):Binds K fd ps []:=by
 obtain⟨oc,od,kV,doc,pm,an,cdv,ct,osl,rfl,lk,hcd⟩:=F.ex
 exact .all (h kV doc pm an cdv ct)
theorem fun_mk{x qual:Str}{st:Stmt}{f:Addr}{oc:Value}{od an:Option Addr}{osl:Array (Option Value)}{kV doc pm cdv ct:Value}(l:K.lookup f=some ⟨oc,od,.func (PySem.W.fnOf x qual (defArgs st) (defBody st) (defScope st) .none kV doc pm an cdv ct),osl⟩)
  (c:PySem.W.codeIn K cdv qual=true)(k:PySem.W.keepIn K (.ref f)=true):Fun K x qual st f (PySem.W.fnOf x qual (defArgs st) (defBody st) (defScope st) .none kV doc pm an cdv ct):=⟨⟨oc,od,kV,doc,pm,an,cdv,ct,osl,rfl,l,c⟩,k⟩
end
theorem small1000{n:Nat}(h:n≤1000):n<sizeLine:=Nat.lt_of_le_of_lt h (by decide)
section
variable {X:Cx}
theorem pv(i:Nat){x:Str}{pos:Pos}(hN:X.N[i]? =some x:=by rfl)(hv:Vis X.env.scope x:=by first | exact Or.inl rfl | exact Or.inr (Or.inl rfl) | exact Or.inr (Or.inr rfl))(hd:(x==("__debug__":Str))=false:=by decide)
  (hcd:(x==("__classdict__":Str))=false:=by decide):PE X (.Name x pos) (tVar i):=pe_var hN hv hd hcd
end
theorem iteF{A B:Prop}(h:B):if false=true then A else B:=by
 rw[if_neg Bool.false_ne_true]
 exact h
theorem iteT{A B:Prop}(h:A):if true=true then A else B:=by
 rw[if_pos rfl]
 exact h
theorem ite2{c A B:Prop} [Decidable c] (h1:c→A)(h2: ¬c→B):if c then A else B:=by
 by_cases h:c
 ·rw[if_pos h]
  exact h1 h
 ·rw[if_neg h]
  exact h2 h
def Same(H H':Hp):Prop:= ∀b o,H b=some o→H' b=some o
theorem Same.refl(H:Hp):Same H H:=fun _ _ h=>h
theorem Same.trans{H H1 H2:Hp}(a:Same H H1)(b:Same H1 H2):Same H H2:=fun c o h=>b c o (a c o h)
theorem Same.free{H H':Hp}(e:Same H H'){l:Addr}(h:H' l=Option.none):H l=Option.none:=by
 cases q:H l with
 | none=>rfl
 | some o=>
  rw[e l o q]at h
  cases h
theorem Same.seq{K:PySem.W.Frag}{H H':Hp}{a:Addr}{xs:List V}(e:Same H H')(h:SqL K H a xs):SqL K H' a xs:=by
 rcases h with (h | ⟨o,h⟩) | h
 ·exact .inl (.inl (e _ _ h))
 ·exact .inl (.inr ⟨o,e _ _ h⟩)
 ·exact .inr h
theorem Same.made{H H1:Hp}{x dx C:Addr}(nx:H x=Option.none)(nd:H dx=Option.none)(k: ∀b o,(upd (upd H dx (.own x)) x (.ins C dx [])) b=some o→b≠x→H1 b=some o):Same H H1:=fun b o e=>
 k b o (by rw[upd_ne (ne_of_none e nx),upd_ne (ne_of_none e nd)];exact e) (ne_of_none e nx)
end L2
section
namespace L2
open PySem PySem.Spec PyProof.Rows
open PySem.W (WData Codec OpenSpec Well WellAll ReadsW ReadsAllW)
mutual
inductive Dw(K:PySem.W.Frag)(H:Hp):V→WData→Prop
 | non:Dw K H .non .none
 | bl (b:Bool):Dw K H (.bl b) (.bool b)
 | int (i:Int):Dw K H (.int i) (.int i)
 | str (x:Str):Dw K H (.str x) (.str x)
 | byt (b:Array UInt8):Dw K H (.byt b) (.bytes b.toList)
 | lst {a:Addr} {xs:List V} {ds:List WData}:SqL K H a xs→DwAll K H xs ds→Dw K H (.ref a) (.list ds)
 | tup {a:Addr} {xs:List V} {ds:List WData}:SqT K H a xs→DwAll K H xs ds→Dw K H (.ref a) (.tuple ds)
inductive DwAll(K:PySem.W.Frag)(H:Hp):List V→List WData→Prop
 | nil:DwAll K H [] []
 | cons {v:V} {vs:List V} {d:WData} {ds:List WData}:Dw K H v d→DwAll K H vs ds→DwAll K H (v::vs) (d::ds)
end
theorem dw_ints{K:PySem.W.Frag}{H:Hp}: ∀ns:List Int,DwAll K H (ns.map V.int) (ns.map WData.int)
 | []=> .nil
 | n::r=> .cons (.int n) (dw_ints r)
theorem ints_dw{K:PySem.W.Frag}{H:Hp}: ∀(ns:List Int) (xs:List V),DwAll K H xs (ns.map WData.int)→xs=ns.map V.int
 | [],xs,h=>by
  cases h
  rfl
 | n::r,xs,h=>by
  cases h with
  | cons h1 h2=>
   cases h1
   rw[ints_dw r _ h2]<;>rfl
section
variable {P:Program}{w:World}{K:PySem.W.Frag}{H:Hp}{h:Heap}{R:PySem.W.WRecords}{cl:Str→Option Addr}
theorem sqL_at{a:Addr}{xs:List V}(hok:HOk P w H h)(KX:K.In h)(q:SqL K H a xs): ∃(its:List Value) (o:Obj) (n:Nat),Vals xs its∧h.get? a=some o∧o.cls= .type "list"∧o.data= .seq its.toArray n:=by
 rcases q with q | ⟨o,its,n,e,hc,_,hd,_,hv⟩
 ·obtain⟨_,its,n,hv,e⟩:=(show ObjOk P w H h a (.lst xs)from q.ok hok)
  exact⟨its,_,n,hv,e,rfl,rfl⟩
 ·exact⟨its.toList,o,n,hv,KX _ _ e,hc,by simp[hd]⟩
theorem sqT_at{a:Addr}{xs:List V}(hok:HOk P w H h)(KX:K.In h)(q:SqT K H a xs): ∃(its:List Value) (o:Obj) (n:Nat),Vals xs its∧h.get? a=some o∧o.cls= .type "tuple"∧o.data= .seq its.toArray n:=by
 rcases q with q | ⟨o,its,n,e,hc,hd,_,hv⟩
 ·obtain⟨_,its,hv,o,e,hc,n,hd⟩:=(show ObjOk P w H h a (.tup xs)from q.ok hok)
  exact⟨its,o,n,hv,e,hc,hd⟩
 ·exact⟨its.toList,o,n,hv,KX _ _ e,hc,by simp[hd]⟩
mutual
theorem Dw.reads(hok:HOk P w H h)(KX:K.In h): ∀(d:WData) (v:V) (u:Value),Dw K H v d→RelV v u→ ∃as,ReadsW R cl h u d as
 | .none,_,_,x,r=>by
  cases x
  cases r
  exact⟨_,ReadsW.none⟩
 | .bool b,_,_,x,r=>by
  cases x
  cases r
  exact⟨_,ReadsW.bool b⟩
 | .int i,_,_,x,r=>by
  cases x
  obtain⟨t,rfl⟩:=r
  exact⟨_,ReadsW.int i t⟩
 | .str s,_,_,x,r=>by
  cases x
  obtain⟨t,rfl⟩:=r
  exact⟨_,ReadsW.str s t⟩
 | .bytes b,_,_,x,r=>by
  cases x
  obtain⟨t,rfl⟩:=r
  exact⟨_,ReadsW.bytes _ t⟩
 | .list ds,_,_,x,r=>by
  cases x with
  | lst hs ha=>
   cases r
   obtain⟨its,o,n,rv,ho,hc,hd⟩:=sqL_at hok KX hs
   obtain⟨as,hr⟩:=Dw.readsAll hok KX ds _ its ha rv
   exact⟨_,ReadsW.list ho hc hd hr⟩
 | .tuple ds,_,_,x,r=>by
  cases x with
  | tup hs ha=>
   cases r
   obtain⟨its,o,n,rv,ho,hc,hd⟩:=sqT_at hok KX hs
   obtain⟨as,hr⟩:=Dw.readsAll hok KX ds _ its ha rv
   exact⟨_,ReadsW.tuple ho hc hd hr⟩
 | .float _,_,_,x,_=>by cases x
 | .dict _,_,_,x,_=>by cases x
 | .bytearray _,_,_,x,_=>by cases x
 | .set _,_,_,x,_=>by cases x
 | .frozenset _,_,_,x,_=>by cases x
 | .obj _ _,_,_,x,_=>by cases x
theorem Dw.readsAll(hok:HOk P w H h)(KX:K.In h): ∀(ds:List WData) (vs:List V) (us:List Value),DwAll K H vs ds→Vals vs us→ ∃as,ReadsAllW R cl h us ds as
 | [],_,_,x,r=>by
  cases x
  cases r
  exact⟨_,ReadsAllW.nil⟩
 | d::ds,_,_,x,r=>by
  cases x with
  | cons h1 h2=>
   cases r with
   | cons r1 r2=>
    obtain⟨as,q1⟩:=Dw.reads hok KX d _ _ h1 r1
    obtain⟨bs,q2⟩:=Dw.readsAll hok KX ds _ _ h2 r2
    exact⟨_,ReadsAllW.cons q1 q2⟩
end
end
mutual
def plW:WData→Bool
 | .none =>true
 | .bool _=>true
 | .int _=>true
 | .str _=>true
 | .bytes _=>true
 | .list xs=>plWs xs
 | .tuple xs=>plWs xs
 | _=>false
def plWs:List WData→Bool
 | []=>true
 | x::r=>plW x&&plWs r
end
theorem plWs_map{α:Type}{f:α→WData}(h: ∀a,plW (f a)=true): ∀l:List α,plWs (l.map f)=true
 | []=>rfl
 | x::r=>by
  show(plW (f x)&&plWs (r.map f))=true
  rw[h x,plWs_map h r]<;>rfl
theorem pl_enc: ∀(c:Codec) (a:c.denote),plW (c.enc a)=true
 | .unit,_=>rfl
 | .bool,_=>rfl
 | .int _ _,_=>rfl
 | .nat _ _,_=>rfl
 | .u8,_=>rfl
 | .bytes _ _,_=>rfl
 | .text _ _ _ _,_=>rfl
 | .list _ _ c,a=>plWs_map (fun x=>pl_enc c x) a
 | .pair c d,a=>by
  show(plW (c.enc a.1)&&(plW (d.enc a.2)&&true))=true
  rw[pl_enc c a.1,pl_enc d a.2]<;>rfl
 | .triple c d e,a=>by
  show(plW (c.enc a.1)&&(plW (d.enc a.2.1)&&(plW (e.enc a.2.2)&&true)))=true
  rw[pl_enc c a.1,pl_enc d a.2.1,pl_enc e a.2.2]<;>rfl
 | .option c,none=>rfl
 | .option c,some x=>pl_enc c x
theorem pl_encAll: ∀(cs:List Codec) (a:Codec.denoteAll cs),plWs (Codec.encAll cs a)=true
 | [],_=>rfl
 | c::cs,a=>by
  show(plW (c.enc a.1)&&plWs (Codec.encAll cs a.2))=true
  rw[pl_enc c a.1,pl_encAll cs a.2]<;>rfl
theorem weight_mem: ∀{xs:List WData} {d:WData},d∈xs→d.weight≤WData.weightAll xs
 | [],d,h=>absurd h (by simp)
 | x::r,d,h=>by
  show d.weight≤x.weight+1+WData.weightAll r
  rcases List.mem_cons.mp h with e | m
  ·rw[e]
   omega
  ·have z:=weight_mem m
   omega
def toV:Value→V
 | .none => .non
 | .bool b=> .bl b
 | .int i _=> .int i
 | .str x _=> .str x
 | .bytes b _=> .byt b
 | .ref a=> .ref a
 | _=> .non
def OkU(A:List Addr):Value→Prop
 | .none =>True
 | .bool _=>True
 | .int _ _=>True
 | .str _ _=>True
 | .bytes _ _=>True
 | .ref a=>a∈A
 | _=>False
theorem OkU.mono{A B:List Addr}(h: ∀a∈A,a∈B): ∀{u:Value},OkU A u→OkU B u:=fun{u} x=>by
 cases u with
 | ref a=>exact h a x
 | none=>trivial
 | bool b=>trivial
 | int i t=>trivial
 | str s t=>trivial
 | bytes b t=>trivial
 | _=>exact False.elim x
theorem relV_toV{A:List Addr}{u:Value}(x:OkU A u):RelV (toV u) u:=by
 cases u with
 | ref a=>rfl
 | none=>rfl
 | bool b=>rfl
 | int i t=>exact⟨t,rfl⟩
 | str s t=>exact⟨t,rfl⟩
 | bytes b t=>exact⟨t,rfl⟩
 | _=>exact False.elim x
theorem vals_toV{A:List Addr}: ∀{vs:List Value},(∀u∈vs,OkU A u)→Vals (vs.map toV) vs
 | [],_=> .nil
 | u::r,h=> .cons (relV_toV (h u (List.mem_cons_self ..))) (vals_toV fun x hx=>h x (List.mem_cons_of_mem _ hx))
def ArgOb(h:Heap)(A:List Addr)(a:Addr):Prop:= ∃vs:List Value,vs.length≤sizeLine∧(∀u∈vs,OkU A u)∧
 (h.get? a=some {cls:= .type "list",data:= .seq vs.toArray}∨h.get? a=some {cls:= .type "tuple",data:= .seq vs.toArray})
theorem ArgOb.mono{h:Heap}{A B:List Addr}{a:Addr}(k: ∀a∈A,a∈B)(x:ArgOb h A a):ArgOb h B a:=by
 obtain⟨vs,h1,h2,h3⟩:=x
 exact⟨vs,h1,fun u hu=>(h2 u hu).mono k,h3⟩
theorem wellAll_len{P:Params}{h:Heap}: ∀{vs:List Value} {ds:List WData},WellAll P h vs ds→vs.length=ds.length
 | _,_,.nil =>rfl
 | _,_,.cons _ b=>by
  show _+1=_+1
  rw[wellAll_len b]
theorem well_list{P:Params}{h:Heap}{v:Value}{ds:List WData}(x:Well P h v (.list ds)): ∃(a:Addr) (vs:List Value),v= .ref a∧h.get? a=some {cls:= .type "list",data:= .seq vs.toArray}∧WellAll P h vs ds:=by
 cases x with
 | list ho hall=>exact⟨_,_,rfl,ho,hall⟩
theorem well_tuple{P:Params}{h:Heap}{v:Value}{ds:List WData}(x:Well P h v (.tuple ds)): ∃(a:Addr) (vs:List Value),v= .ref a∧h.get? a=some {cls:= .type "tuple",data:= .seq vs.toArray}∧WellAll P h vs ds:=by
 cases x with
 | tuple ho hall=>exact⟨_,_,rfl,ho,hall⟩
theorem well_cons{P:Params}{h:Heap}{us:List Value}{d:WData}{ds:List WData}(x:WellAll P h us (d::ds)): ∃(v:Value) (vs:List Value),us=v::vs∧Well P h v d∧WellAll P h vs ds:=by
 cases x with
 | cons a b=>exact⟨_,_,rfl,a,b⟩
theorem line_of{n:Nat}(h:n≤1048576):n≤sizeLine:=Nat.le_trans h (by decide)
section
variable {P:Params}{h:Heap}
mutual
theorem area_one: ∀(d:WData) (v:Value),Well P h v d→plW d=true→d.weight≤1048576→ ∃A:List Addr,OkU A v∧ ∀a∈A,ArgOb h A a
 | .none,_,x,_,_=>by
  cases x
  exact⟨[],trivial,fun a m=>absurd m (by simp)⟩
 | .bool b,_,x,_,_=>by
  cases x
  exact⟨[],trivial,fun a m=>absurd m (by simp)⟩
 | .int i,_,x,_,_=>by
  cases x
  exact⟨[],trivial,fun a m=>absurd m (by simp)⟩
 | .str s,_,x,_,_=>by
  cases x
  exact⟨[],trivial,fun a m=>absurd m (by simp)⟩
 | .bytes b,_,x,_,_=>by
  cases x
  exact⟨[],trivial,fun a m=>absurd m (by simp)⟩
 | .list ds,_,x,p,z=>by
  obtain⟨a,vs,rfl,ho,hall⟩:=well_list x
  have z2:WData.weightAll ds≤1048576:=z
  obtain⟨A,h1,h2⟩:=area_all ds _ hall p fun d hd=>Nat.le_trans (weight_mem hd) z2
  have k: ∀b∈A,b∈a::A:=fun b hb=>List.mem_cons_of_mem _ hb
  refine⟨a::A,List.mem_cons_self ..,fun b hb=>?_⟩
  rcases List.mem_cons.mp hb with e | m
  ·rw[e]
   exact⟨vs,line_of (by rw[wellAll_len hall];exact Nat.le_trans (PySem.W.length_le_weightAllW ds) z2),fun u hu=>(h1 u hu).mono k,.inl ho⟩
  ·exact(h2 b m).mono k
 | .tuple ds,_,x,p,z=>by
  obtain⟨a,vs,rfl,ho,hall⟩:=well_tuple x
  have z2:WData.weightAll ds≤1048576:=z
  obtain⟨A,h1,h2⟩:=area_all ds _ hall p fun d hd=>Nat.le_trans (weight_mem hd) z2
  have k: ∀b∈A,b∈a::A:=fun b hb=>List.mem_cons_of_mem _ hb
  refine⟨a::A,List.mem_cons_self ..,fun b hb=>?_⟩
  rcases List.mem_cons.mp hb with e | m
  ·rw[e]
   exact⟨vs,line_of (by rw[wellAll_len hall];exact Nat.le_trans (PySem.W.length_le_weightAllW ds) z2),fun u hu=>(h1 u hu).mono k,.inr ho⟩
  ·exact(h2 b m).mono k
 | .float _,_,_,p,_=>Bool.noConfusion (show false=true from p)
 | .dict _,_,_,p,_=>Bool.noConfusion (show false=true from p)
 | .bytearray _,_,_,p,_=>Bool.noConfusion (show false=true from p)
 | .set _,_,_,p,_=>Bool.noConfusion (show false=true from p)
 | .frozenset _,_,_,p,_=>Bool.noConfusion (show false=true from p)
 | .obj _ _,_,_,p,_=>Bool.noConfusion (show false=true from p)
theorem area_all: ∀(ds:List WData) (vs:List Value),WellAll P h vs ds→plWs ds=true→(∀d∈ds,d.weight≤1048576)→ ∃A:List Addr,(∀u∈vs,OkU A u)∧ ∀a∈A,ArgOb h A a
 | [],_,x,_,_=>by
  cases x
  exact⟨[],fun u m=>absurd m (by simp),fun a m=>absurd m (by simp)⟩
 | d::ds,_,x,p,z=>by
  obtain⟨v,vs,rfl,x1,x2⟩:=well_cons x
  have q:plW d=true∧plWs ds=true:=Bool.and_eq_true_iff.mp p
  obtain⟨A,a1,a2⟩:=area_one d v x1 q.1 (z d (List.mem_cons_self ..))
  obtain⟨B,b1,b2⟩:=area_all ds vs x2 q.2 fun e he=>z e (List.mem_cons_of_mem _ he)
  have kA: ∀b∈A,b∈A++B:=fun b hb=>List.mem_append.mpr (.inl hb)
  have kB: ∀b∈B,b∈A++B:=fun b hb=>List.mem_append.mpr (.inr hb)
  refine⟨A++B,fun u hu=>?_,fun b hb=>?_⟩
  ·rcases List.mem_cons.mp hu with e | m
   ·rw[e]
    exact a1.mono kA
   ·exact(b1 u m).mono kB
  ·rcases List.mem_append.mp hb with m | m
   ·exact(a2 b m).mono kA
   ·exact(b2 b m).mono kB
end
end
def hoOf(o:Obj):Option HO:=match o.data with
 | .seq vs _=>if (o.cls==Value.type "list")=true then some (.frz o (.lst (vs.toList.map toV)))else some (.frz o (.tup (vs.toList.map toV)))
 | _=>none
def argH(K:PySem.W.Frag)(h:Heap)(A:List Addr):Hp:=fun b=>if b∈A then(if (K.lookup b).isNone =true then(h.get? b).bind hoOf else none)else none
def OnlyF(H:Hp):Prop:= ∀b,H b=none∨ ∃o u,H b=some (.frz o u)
theorem hoOf_lst(vs:List Value):hoOf {cls:= .type "list",data:= .seq vs.toArray}=some (.frz {cls:= .type "list",data:= .seq vs.toArray} (.lst (vs.map toV))):=by
 show(if (Value.type "list"==Value.type "list")=true then some (HO.frz {cls:= .type "list",data:= .seq vs.toArray} (.lst (vs.toArray.toList.map toV)))else some (HO.frz {cls:= .type "list",data:= .seq vs.toArray} (.tup (vs.toArray.toList.map toV))))=_
 rw[if_pos (beq_self_eq_true _)]
theorem hoOf_tup(vs:List Value):hoOf {cls:= .type "tuple",data:= .seq vs.toArray}=some (.frz {cls:= .type "tuple",data:= .seq vs.toArray} (.tup (vs.map toV))):=by
 show(if (Value.type "tuple"==Value.type "list")=true then some (HO.frz {cls:= .type "tuple",data:= .seq vs.toArray} (.lst (vs.toArray.toList.map toV)))else some (HO.frz {cls:= .type "tuple",data:= .seq vs.toArray} (.tup (vs.toArray.toList.map toV))))=_
 rw[if_neg (by decide)]
section
variable {P:Program}{w:World}{K:PySem.W.Frag}{h:Heap}{A:List Addr}
theorem argH_at{b:Addr}{o:Obj}(hb:b∈A)(hk:K.lookup b=none)(e:h.get? b=some o):argH K h A b=hoOf o:=by
 unfold argH
 rw[if_pos hb,hk,if_pos (show(none:Option Obj).isNone =true from rfl),e]<;>rfl
theorem of_argH{b:Addr}{u:HO}(q:argH K h A b=some u):b∈A∧K.lookup b=none:=by
 unfold argH at q
 by_cases hb:b∈A
 ·rw[if_pos hb]at q
  cases hk:K.lookup b with
  | none=>exact⟨hb,rfl⟩
  | some o=>
   rw[hk,if_neg (by simp)]at q
   cases q
 ·rw[if_neg hb]at q
  cases q
theorem argH_is (ar : ∀ a ∈ A, ArgOb h A a) {b : Addr} {u : HO} (q : argH K h A b = some u) : K.lookup b = none ∧ ∃ vs : List Value, vs.length ≤ sizeLine ∧ (∀ u ∈ vs, OkU A u) ∧
    ((h.get? b = some { cls := .type "list", data := .seq vs.toArray } ∧ u = .frz { cls := .type "list", data := .seq vs.toArray } (.lst (vs.map toV))) ∨
     (h.get? b = some { cls := .type "tuple", data := .seq vs.toArray } ∧ u = .frz { cls := .type "tuple", data := .seq vs.toArray } (.tup (vs.map toV)))) := by
  obtain ⟨hb, hk⟩ := of_argH q
  obtain ⟨vs, h1, h2, h3⟩ := ar b hb
  refine ⟨hk, vs, h1, h2, ?_⟩
  rcases h3 with e | e
  · rw [argH_at hb hk e, hoOf_lst] at q
    exact .inl ⟨e, (Option.some.inj q).symm⟩
  · rw [argH_at hb hk e, hoOf_tup] at q
    exact .inr ⟨e, (Option.some.inj q).symm⟩
theorem argH_only(ar: ∀a∈A,ArgOb h A a):OnlyF (argH K h A):=fun b=>by
 cases q:argH K h A b with
 | none=>exact .inl rfl
 | some u=>
  obtain⟨_,vs,_,_,⟨_,e⟩ | ⟨_,e⟩⟩:=argH_is ar q
  ·exact .inr ⟨_,_,by rw[e]⟩
  ·exact .inr ⟨_,_,by rw[e]⟩
theorem argH_ok(ar: ∀a∈A,ArgOb h A a):HOk P w (argH K h A) h:=fun b u q=>by
 obtain⟨_,vs,h1,h2,⟨e,rfl⟩ | ⟨e,rfl⟩⟩:=argH_is ar q
 ·exact⟨e,by rw[List.length_map];exact h1,vs,_,vals_toV h2,e⟩
 ·exact⟨e,by rw[List.length_map];exact h1,vs,vals_toV h2,_,e,rfl,_,rfl⟩
theorem seq_inj{c c':Value}{vs us:List Value}(e:(some {cls:=c,data:= .seq vs.toArray}:Option Obj)=some {cls:=c',data:= .seq us.toArray}):c=c'∧vs=us:=by
 have e1:=Option.some.inj e
 have e2:c=c':=congrArg Obj.cls e1
 have e3:Data.seq vs.toArray=Data.seq us.toArray:=congrArg Obj.data e1
 injection e3 with e4
 refine⟨e2,?_⟩
 have e5:=congrArg Array.toList e4
 simpa using e5
theorem argL(KX:K.In h)(ar: ∀a∈A,ArgOb h A a){a:Addr}{vs:List Value}(ha:a∈A)(e:h.get? a=some {cls:= .type "list",data:= .seq vs.toArray}):(∀u∈vs,OkU A u)∧SqL K (argH K h A) a (vs.map toV):=by
 obtain⟨us,h1,h2,h3⟩:=ar a ha
 have hu:us=vs:=by
  rcases h3 with q | q
  ·rw[e]at q
   exact(seq_inj q).2.symm
  ·rw[e]at q
   exact absurd (Value.type.inj (seq_inj q).1) (by decide)
 subst hu
 refine⟨h2,?_⟩
 cases hk:K.lookup a with
 | none=>exact .inl (.inr ⟨_,by rw[argH_at ha hk e,hoOf_lst]⟩)
 | some o=>
  have e2:=KX a o hk
  rw[e]at e2
  obtain rfl:=Option.some.inj e2
  exact .inr ⟨_,us.toArray,_,hk,rfl,rfl,rfl,by rw[List.size_toArray];exact h1,by simpa using vals_toV h2⟩
theorem argT(KX:K.In h)(ar: ∀a∈A,ArgOb h A a){a:Addr}{vs:List Value}(ha:a∈A)(e:h.get? a=some {cls:= .type "tuple",data:= .seq vs.toArray}):(∀u∈vs,OkU A u)∧SqT K (argH K h A) a (vs.map toV):=by
 obtain⟨us,h1,h2,h3⟩:=ar a ha
 have hu:us=vs:=by
  rcases h3 with q | q
  ·rw[e]at q
   exact absurd (Value.type.inj (seq_inj q).1) (by decide)
  ·rw[e]at q
   exact(seq_inj q).2.symm
 subst hu
 refine⟨h2,?_⟩
 cases hk:K.lookup a with
 | none=>exact .inl (.inr ⟨_,by rw[argH_at ha hk e,hoOf_tup]⟩)
 | some o=>
  have e2:=KX a o hk
  rw[e]at e2
  obtain rfl:=Option.some.inj e2
  exact .inr ⟨_,us.toArray,_,hk,rfl,rfl,by rw[List.size_toArray];exact h1,by simpa using vals_toV h2⟩
mutual
theorem dw_one{Pm:Params}(KX:K.In h)(ar: ∀a∈A,ArgOb h A a): ∀(d:WData) (v:Value),Well Pm h v d→plW d=true→OkU A v→Dw K (argH K h A) (toV v) d
 | .none,_,x,_,_=>by
  cases x
  exact .non
 | .bool b,_,x,_,_=>by
  cases x
  exact .bl b
 | .int i,_,x,_,_=>by
  cases x
  exact .int i
 | .str s,_,x,_,_=>by
  cases x
  exact .str s
 | .bytes b,_,x,_,_=>by
  cases x
  have z:=Dw.byt (K:=K) (H:=argH K h A) b.toArray
  exact z
 | .list ds,_,x,p,hu=>by
  obtain⟨a,vs,rfl,ho,hall⟩:=well_list x
  obtain⟨h2,hs⟩:=argL KX ar hu ho
  exact .lst hs (dw_all KX ar ds _ hall p h2)
 | .tuple ds,_,x,p,hu=>by
  obtain⟨a,vs,rfl,ho,hall⟩:=well_tuple x
  obtain⟨h2,hs⟩:=argT KX ar hu ho
  exact .tup hs (dw_all KX ar ds _ hall p h2)
 | .float _,_,_,p,_=>Bool.noConfusion (show false=true from p)
 | .dict _,_,_,p,_=>Bool.noConfusion (show false=true from p)
 | .bytearray _,_,_,p,_=>Bool.noConfusion (show false=true from p)
 | .set _,_,_,p,_=>Bool.noConfusion (show false=true from p)
 | .frozenset _,_,_,p,_=>Bool.noConfusion (show false=true from p)
 | .obj _ _,_,_,p,_=>Bool.noConfusion (show false=true from p)
theorem dw_all{Pm:Params}(KX:K.In h)(ar: ∀a∈A,ArgOb h A a): ∀(ds:List WData) (vs:List Value),WellAll Pm h vs ds→plWs ds=true→(∀u∈vs,OkU A u)→DwAll K (argH K h A) (vs.map toV) ds
 | [],_,x,_,_=>by
  cases x
  exact .nil
 | d::ds,_,x,p,hu=>by
  obtain⟨v,vs,rfl,x1,x2⟩:=well_cons x
  have q:plW d=true∧plWs ds=true:=Bool.and_eq_true_iff.mp p
  exact .cons (dw_one KX ar d v x1 q.1 (hu _ (List.mem_cons_self ..))) (dw_all KX ar ds vs x2 q.2 fun u m=>hu u (List.mem_cons_of_mem _ m))
end
end
theorem spec_call{P:Program}{w:World}{K:PySem.W.Frag}{mg mb:Str→Option Value}{CX:CXT}{k:Nat}{fa:Addr}{fd:FuncData}{ps:List Str}{sp:Sp}{s₁:Shared}{vals:List Value}{ds:List WData}{R:PySem.W.WRecords}{cl:Str→Option Addr}{d0:WData}
  (KX:K.In s₁.heap)(hns:s₁.heap.Ns mainGlobals mg)(hb:s₁.heap.Ns builtinsNs mb)(hbb: ∀x:Str,x≠"__name__"→mb x=bootBuiltins x)(hlim:s₁.heap.NoLimit)(hg:s₁.gens= #[])
  (hwl:WellAll w.params s₁.heap vals ds)(hpl:plWs ds=true)(hwt: ∀d∈ds,d.weight≤1048576)(hr:Room k callerA)
  (F: ∀base:Heap,K.In base→base.Ns mainGlobals mg→FnOk P w K mg base CX k fa fd ps sp)(hbind: ∀(s:Shared) (us:List Value),us.length=ps.length→BindsTo s fd ⟨us,[]⟩ (ps.zip us))(hlen:ds.length=ps.length)
  (hsp: ∀(H:Hp) (xs:List V),OnlyF H→DwAll K H xs ds→sp xs H (fun v H'=>Dw K H' v d0) fun _ _ _=>False)
  (hCX: ∀H e s',CX [] H s₁ (fun _ _ _=>False) e s'→False):
  codeAny (model P w) callerA (.call (.ref fa) ⟨vals,[]⟩) (fun r s'=> ∃u as,r= .ok (.ret u)∧ReadsW R cl s'.heap u d0 as∧OldK s₁.heap s'.heap∧s'.os=s₁.os∧AllBare s'.gens) s₁:=by
 obtain⟨A,ho,ar⟩:=area_all ds vals hwl hpl hwt
 have hO:OnlyF (argH K s₁.heap A):=argH_only ar
 have hok:HOk P w (argH K s₁.heap A) s₁.heap:=argH_ok ar
 have hS:=dw_all KX ar ds vals hwl hpl ho
 have hV:=vals_toV ho
 have hK: ∀b u,argH K s₁.heap A b=some u→K.lookup b=none:=fun b u q=>(argH_is ar q).1
 have noA: ∀{b:Addr} {o:Obj} {es:Array DictEntry} {ep:Nat},s₁.heap.get? b=some o→o.data= .dict es ep→argH K s₁.heap A b=none:=fun{b o es ep} e d=>by
  cases q:argH K s₁.heap A b with
  | none=>rfl
  | some u=>
   obtain⟨_,vs,_,_,⟨e2,_⟩ | ⟨e2,_⟩⟩:=argH_is ar q
   ·rw[e2]at e
    cases e
    have d':Data.seq vs.toArray _=Data.dict es ep:=d
    cases d'
   ·rw[e2]at e
    cases e
    have d':Data.seq vs.toArray _=Data.dict es ep:=d
    cases d'
 generalize argH K s₁.heap A=H at hO hok hS hK noA
 have base_of: ∀{b:Addr} {o:Obj},s₁.heap.get? b=some o→H b=none→(hidT s₁.heap H).get? b=some o:=fun e n=>hidT_get e n
 have nsK: ∀{b:Addr} {m:Str→Option Value},s₁.heap.Ns b m→(hidT s₁.heap H).Ns b m:=fun{b m} ⟨o,es,ep,e,d,r⟩=>⟨o,es,ep,base_of e (noA e d),d,r⟩
 have nK: ∀b o,K.lookup b=some o→H b=none:=fun b o e=>by
  cases q:H b with
  | none=>rfl
  | some u=>
   rw[hK b u q]at e
   cases e
 have hKb:K.In (hidT s₁.heap H):=fun b o e=>base_of (KX b o e) (nK b o e)
 have hM:Mod K mg (hidT s₁.heap H):=⟨hKb,nsK hns,⟨mb,nsK hb,hbb⟩,let ⟨mc,h1,h2⟩:=hlim;⟨mc,nsK h1,h2⟩⟩
 have e0:Env0 P w K mg (hidT s₁.heap H) callerA [] s₁ H:=⟨rfl,hM,fun b o e=>of_hidT e,Nat.le_of_eq (hidT_size _ _),trivial,fun b hb=>absurd (show b∈([]:List Addr)from hb) (by simp),hok,.of_eq hg⟩
 have hl:vals.length=ps.length:=by rw[wellAll_len hwl];exact hlen
 refine codeAny_mono ((F _ hKb (nsK hns)).run callerA [] s₁ H ⟨vals,[]⟩ vals (vals.map toV) _ _ hr e0 (hbind s₁ vals hl) hV (hsp H _ hO hS)) fun r s' x=>?_
 cases r with
 | error e=>exact(hCX H e s' x).elim
 | ok fl=>
  cases fl with
  | next=>exact False.elim x
  | brk=>exact False.elim x
  | cont=>exact False.elim x
  | ret u=>
   obtain⟨v,H',os,bare,un,hok',r',q⟩:=x
   have kept: ∀b o,s₁.heap.get? b=some o→s'.heap.get? b=some o:=fun b o e=>by
    cases q2:H b with
    | none=>exact un.keep b o e q2 (by intro z;exact absurd (show b∈([]:List Addr)from z) (by simp)) (by simp)
    | some u2=>
     rcases hO b with z | ⟨ob,u3,z⟩
     ·rw[q2]at z
      cases z
     ·have z2:=un.frzs b ob _ z
      obtain⟨e1,_⟩:=hok b _ z
      obtain⟨e2,_⟩:=hok' b _ z2
      rw[e]at e1
      cases e1
      exact e2
   have KX':K.In s'.heap:=fun b o e=>kept b o (KX b o e)
   obtain⟨as,hrd⟩:=Dw.reads (R:=R) (cl:=cl) hok' KX' d0 v u q r'
   exact⟨u,as,rfl,hrd,OldK.of_keep kept,os,bare⟩
theorem layable_weight{ds:List WData}(h:WData.layableAll ds=true): ∀d∈ds,d.weight≤1048576:=fun d hd=>
 (PySem.W.layableW_iff.mp (List.all_eq_true.mp h d hd)).2.2
theorem encAll_len: ∀(cs:List Codec) (a:Codec.denoteAll cs),(Codec.encAll cs a).length =cs.length
 | [],_=>rfl
 | c::cs,a=>by
  show(Codec.encAll cs a.2).length +1=cs.length+1
  rw[encAll_len cs a.2]
theorem walk_spec{r:OpenSpec}{k:Nat}{q:Program}{loose:List Str}{XP:(Str→Option Value)→Heap→Prop}{YP:World→Heap→Prop}{d:DefRec}{K:Params→PySem.W.Frag}{CX:World→CXT}{ps:List Str}{sp:World→Sp}
  (hwell:r.wellSaid=true)(hdf:d.params.defaults=[])(hlen:r.args.length=ps.length)(hr:Room k callerA)
  (hY: ∀(w:World) (h:Heap),YP w h→(K w.params).In h)
  (F: ∀(w:World) (mg:Str→Option Value) (fa:Addr) (h:Heap),YP w h→(K w.params).In h→h.Ns mainGlobals mg→mg d.name=some (.ref fa)→
   ∃fd:FuncData,(∀(s:Shared) (us:List Value),us.length=ps.length→BindsTo s fd ⟨us,[]⟩ (ps.zip us))∧
    ∀base:Heap,(K w.params).In base→base.Ns mainGlobals mg→FnOk r.prog w (K w.params) mg base (CX w) k fa fd ps (sp w))
  (hsp: ∀(w:World) (H:Hp) (xs:List V) (a:Codec.denoteAll r.args),OnlyF H→Codec.withinAll r.args a=true→Codec.app r.args r.asked a=true→DwAll (K w.params) H xs (Codec.encAll r.args a)→
   sp w xs H (fun v H'=>Dw (K w.params) H' v (r.ret.enc (Codec.app r.args r.f a))) fun _ _ _=>False)
  (hCX: ∀(w:World) (H:Hp) (s:Shared) (e:Value) (s':Shared),CX w [] H s (fun _ _ _=>False) e s'→False):
  PySem.W.WalkOS q loose XP YP r d [] (fun f vs=>PySem.call f vs):=by
 intro w s_0 s₁ mg mb G Y fa o pm cd doc dV kV ho hd hcd hD hmg hg args vals as hpre hlay hrd hwl hlo
 obtain⟨a,e1,e2⟩:=PySem.W.os_pre_some hpre
 obtain⟨e3,hwi⟩:=Codec.encAll_of_decAll r.args args a e1
 subst e3
 have KX:=hY w _ Y
 obtain⟨fd,hb,hF⟩:=F w mg fa _ Y KX G.T.g hmg
 refine PySem.W.enter_call (codeAny_mono (spec_call (R:=[]) (cl:=classAt s_0.heap) (d0:=r.ret.enc (Codec.app r.args r.f a)) KX G.T.g G.T.b G.T.builtins G.T.nolimit hg hwl (pl_encAll _ _) (layable_weight hlay) hr hF hb (by rw[encAll_len];exact hlen)
  (fun H xs hO hS=>hsp w H xs a hO hwi e2 hS) fun H e s'=>hCX w H s₁ e s') fun r' s' hq=>?_)
 obtain⟨u,as',rfl,h1,h2,h3,h4⟩:=hq
 exact⟨.inl ⟨u,_,as',rfl,fun _=>rfl,h1,(OpenSpec.post_iff hwell hwi _ _).mpr rfl,fun z=>Bool.noConfusion (show false=true from z)⟩,h2,h3,h4⟩
theorem walk_specK{r:OpenSpec}{k:Nat}{q:Program}{loose:List Str}{XP:(Str→Option Value)→Heap→Prop}{YP:World→Heap→Prop}{d:DefRec}{K:Params→PySem.W.Frag}{CX:CXT}{ps:List Str}{sp:PySem.W.Frag→Sp}
  (hwell:r.wellSaid=true)(hdf:d.params.defaults=[])(hlen:r.args.length=ps.length)(hr:Room k callerA)
  (hY: ∀(w:World) (h:Heap),YP w h→(K w.params).In h)
  (F: ∀(w:World) (mg:Str→Option Value) (fa:Addr) (h:Heap),YP w h→(K w.params).In h→h.Ns mainGlobals mg→mg d.name=some (.ref fa)→
   ∃fd:FuncData,(∀(s:Shared) (us:List Value),us.length=ps.length→BindsTo s fd ⟨us,[]⟩ (ps.zip us))∧
    ∀base:Heap,(K w.params).In base→base.Ns mainGlobals mg→FnOk r.prog w (K w.params) mg base CX k fa fd ps (sp (K w.params)))
  (hsp: ∀(K:PySem.W.Frag) (H:Hp) (xs:List V) (a:Codec.denoteAll r.args),OnlyF H→Codec.withinAll r.args a=true→Codec.app r.args r.asked a=true→DwAll K H xs (Codec.encAll r.args a)→
   sp K xs H (fun v H'=>Dw K H' v (r.ret.enc (Codec.app r.args r.f a))) fun _ _ _=>False)
  (hCX: ∀(H:Hp) (s:Shared) (e:Value) (s':Shared),CX [] H s (fun _ _ _=>False) e s'→False):
  PySem.W.WalkOS q loose XP YP r d [] (fun f vs=>PySem.call f vs):=
 walk_spec (K:=K) (CX:=fun _=>CX) (sp:=fun w=>sp (K w.params)) hwell hdf hlen hr hY F (fun w H xs a h1 h2 h3 h4=>hsp (K w.params) H xs a h1 h2 h3 h4) fun _ H s e s'=>hCX H s e s'
end L2
end
namespace L2
open PySem PySem.Spec PyProof.Rows
section
variable {X:Cx}
theorem call_sumL(hc:X.calm=true):CallR X (.builtin "sum") (fun xs H Q=> ∃(a:Addr) (ns:List Int),xs=[.ref a]∧SqL X.K H a (ns.map V.int)∧Q (.int ns.sum) H):=by
 intro pins s σ H xs us Q I r h
 obtain⟨a,ns,rfl,hq,q⟩:=h
 obtain⟨u,rfl,ru⟩:=vals1 r
 cases ru
 obtain⟨its,rv,p,hz⟩:=I.list hq
 have hi:=intsAre_of rv
 obtain⟨ys,hx⟩:=hi.allInts.items
 have hl':s.heap.IsList a (intItems ys):=hx▸p.isList
 refine sum_intListG (I.ok.hd hc) hl' fun h' tk t' hk=>?_
 have e1:ns=ys.toList.map (·.1):=by
  rw[←nums_intItems,←hx]
  exact(show numsOf its.toArray.toList=ns from hi.numsOf).symm
 have e2:preSum (numAt ys) ys.size=ns.sum:=by
  rw[preSum_eq,List.take_of_length_le (by simp),e1]
 rw[e2]
 exact⟨.int ns.sum,H,I.kept hk,⟨_,rfl⟩,q⟩
theorem bools_get: ∀{bs:List Bool} {its:List Value},Vals (bs.map V.bl) its→ ∀(i:Nat) (v:Value),its[i]? =some v→ ∃b,bs[i]? =some b∧v= .bool b
 | [],_,.nil,i,v,e=>by simp at e
 | b::_,_,.cons r t,0,v,e=>by
  simp at e
  subst e
  exact⟨b,rfl,r⟩
 | b::_,_,.cons r t,i+1,v,e=>by
  obtain⟨c,h1,h2⟩:=bools_get t i v (by simpa using e)
  exact⟨c,by simpa using h1,h2⟩
theorem call_allL(hc:X.calm=true):CallR X (.builtin "all") (fun xs H Q=> ∃(a:Addr) (bs:List Bool),xs=[.ref a]∧SqL X.K H a (bs.map V.bl)∧Q (.bl (bs.all id)) H):=by
 intro pins s σ H xs us Q I r h
 obtain⟨a,bs,rfl,hq,q⟩:=h
 obtain⟨u,rfl,ru⟩:=vals1 r
 cases ru
 obtain⟨its,rv,p,hz⟩:=I.list hq
 have hl:=p.isList
 have hlt:a<s.heap.objs.size:=by obtain⟨_,e,_⟩:=hl;exact Heap.lt_size e
 refine call_all_walk (wpAny_pyIter_list hl ?_)
 refine⟨s.heap.objs.size,[s.heap.objs.size,a],[s.heap.objs.size],its.toArray.size,_,_,fun i=>(bs[i]?).getD true,rfl,Walks.list (A:=X.A.in1) (I.ok.hd hc) _ a (Nat.ne_of_lt hlt) its.toArray,
  ⟨⟨_,Heap.get?_push_size _ rfl,rfl,rfl⟩,hl.push _⟩,fun i v s' Q' E' hP hQ=>?_,fun h' tk hk=>?_⟩
 ·obtain⟨b,e,rfl⟩:=bools_get rv i v (by simpa using hP)
  simp only[e,Option.getD_some]at hQ
  exact wpAny_truthy_bool hQ
 ·have hlen:its.toArray.size=bs.length:=by rw[List.size_toArray,←rv.length,List.length_map]
  have e:((List.range its.toArray.size).all fun i=>(bs[i]?).getD true)=bs.all id:=by
   rw[hlen];exact LSm.range_all bs
  rw[e]
  exact⟨.bl (bs.all id),H,I.kept (LSm.kept_iter hk),rfl,q⟩
def tCallV(X:Cx)(k:Nat)(tf:TE)(t:TA):TE:=fun σ H Q=>tf σ H fun x H0=> ∃(f:Addr) (fd:FuncData) (ps:List Str) (sp:Sp),x= .ref f∧PySem.W.keepIn X.K (.ref f)=true∧FnOk X.prog X.w X.K X.mg X.base CX0 k f fd ps sp∧Binds X.K fd ps []∧
 t σ H0 fun vs H1=>sp vs H1 Q E0
theorem pe_callV{k:Nat}{x:Str}{p pos:Pos}{e:Expr}{es:List Expr}{tf:TE}{t:TA}(hf:PE X (.Name x p) tf)(hr:Room k X.A)(ha:PA X (e::es) t)
  (he:starEach (e::es) X.env=(false,eval e X.env)::starEach es X.env:=by rfl)(hpl:(backTo pos (starEach es X.env)).any (·.1)=false:=by rfl):
  PE X (.Call (.Name x p) (e::es) [] pos) (tCallV X k tf t):=by
 intro pins s σ H Q I h
 refine wpAny_Call_Name_kw (thn (hf pins s σ H _ I h) fun u s1 ⟨x,H1,I1,rx,f,fd,ps,sp,ex,hk,F,hb,q⟩=>?_)
 subst ex
 obtain rfl:u=Value.ref f:=rx
 refine PySem.W.callWith_K (h₀:=X.base) I.ok.mod.kin hk (thn (ha pos pins s1 σ H1 _ I1 q) fun us s2 ⟨vs,H2,I2,r,q2⟩=>⟨I2.kIn,?_⟩) he hpl
 exact run_fn F hr hb .nil pass0 I2 r (by rw[List.append_nil];exact q2)
end
def blkLook(N:List Str)(sc scope:Scope)(own:List (Str×Nat)):Bool:=
 (scope.kind== .function)&&(scope.names.all fun y=>scope.names.lookup y.1==some y.2)&&(own.all fun p=>N[p.2]? ==some p.1)&&
 (scope.names.all fun y=>y.2 != .free || (sc.names.lookup y.1==some .cell || sc.names.lookup y.1==some .free))&&
 (scope.names.all fun y=> !(y.2== .local || y.2== .cell) || ((own.map (·.1)).contains y.1 || !N.contains y.1))
theorem blk_of{N:List Str}{sc scope:Scope}{own:List (Str×Nat)}(h:blkLook N sc scope own=true):BlkOk N sc scope own:=by
 unfold blkLook at h
 simp only[Bool.and_eq_true,List.all_eq_true]at h
 obtain⟨⟨⟨⟨h1,h2⟩,h3⟩,h4⟩,h5⟩:=h
 refine⟨by simpa using h1,fun y hy=>by simpa using h2 y hy,fun p hp=>by simpa using h3 p hp,fun y hy e=>?_,fun y hy e=>?_⟩
 ·have:=h4 y hy
  simpa [e] using this
 ·have:=h5 y hy
  rcases e with e | e<;>simpa [e] using this
section
variable {X:Cx}{s:Shared}{H0:Hp}{scope:Scope}{env:Env}{fp:List Addr}
theorem bk_fld{e:Expr}{f:Str}{pos:Pos}{ta:TE}(he:PE (X.blk s H0 scope env fp) e ta)(hb:attributeBase e f (X.blk s H0 scope env fp).env (eval e (X.blk s H0 scope env fp).env)=eval e (X.blk s H0 scope env fp).env):
  PE (X.blk s H0 scope env fp) (.Attribute e f pos) (tFld X.K ta f):=pe_fld he hb
theorem bk_truth{a:Expr}{ta:TE}(ha:PE (X.blk s H0 scope env fp) a ta)(he: ∀whole,isTrue a (X.blk s H0 scope env fp).env whole=(do let v ←whole;standAt a.pos;holding [v] (truthy v))):
  PT (X.blk s H0 scope env fp) a (fun σ H Q=>ta σ H fun x H'=> ∃k,TruV X.K x H' k∧Q k H'):=pt_truth ha he
theorem bk_len:CallR (X.blk s H0 scope env fp) (.builtin "len") (fun xs H Q=> ∃p ys,xs=[.ref p]∧(SqL X.K H p ys∨SqT X.K H p ys)∧Q (.int ys.length) H):=call_len_seq
theorem bk_notin:OpR (X.blk s H0 scope env fp) (compareOp .NotIn) (rIn X.K true):=op_notIn_seq
end
theorem ns_one{h:Heap}{a:Addr}{m m':Str→Option Value}(x:h.Ns a m)(y:h.Ns a m'):m=m':=by
 obtain⟨o,es,ep,e,d,_,f⟩:=x
 obtain⟨o',es',ep',e',d',_,f'⟩:=y
 rw[e]at e'
 cases e'
 rw[d]at d'
 cases d'
 funext n
 rw[←f n,f' n]
def SortedA(ks:List Int)(as bs:List Addr):Prop:=
 ∃ps:List (Int×Addr),ps.Perm (ks.zip as)∧bs=ps.map Prod.snd∧ps.Pairwise (fun p q=>p.1≤q.1)∧ ∀c,ps.filter (fun p=>p.1==c)=(ks.zip as).filter (fun p=>p.1==c)
theorem refs_of: ∀{as:List Addr} {its:List Value},Vals (as.map V.ref) its→its=as.map Value.ref
 | [],_,.nil =>rfl
 | a::_,_,.cons r t=>by
  cases r
  rw[refs_of t]<;>rfl
theorem vals_refs: ∀as:List Addr,Vals (as.map V.ref) (as.map Value.ref)
 | []=> .nil
 | _::as=> .cons rfl (vals_refs as)
theorem perm_pull{α β:Type}(f:α→β){a b:List β}(h:a.Perm b): ∀l:List α,l.map f=b→ ∃l':List α,l'.map f=a∧l'.Perm l:=by
 induction h with
 | nil=>exact fun l e=>⟨l,e,.refl _⟩
 | cons x _ ih=>
  intro l e
  match l,e with
  | y::l,e=>
   simp only[List.map_cons,List.cons.injEq]at e
   obtain⟨l',e',p⟩:=ih l e.2
   exact⟨y::l',by rw[List.map_cons,e',e.1],p.cons y⟩
 | swap x y t=>
  intro l e
  match l,e with
  | u::v::l,e=>
   simp only[List.map_cons,List.cons.injEq]at e
   exact⟨v::u::l,by simp[e.1,e.2.1,e.2.2],.swap ..⟩
 | trans _ _ ih1 ih2=>
  intro l e
  obtain⟨l2,e2,p2⟩:=ih2 l e
  obtain⟨l1,e1,p1⟩:=ih1 l2 e2
  exact⟨l1,e1,p1.trans p2⟩
theorem sortedA_of{ks:List Int}{as:List Addr}{out:List Value}(h:KskOutSt false ks (as.map Value.ref) out): ∃bs:List Addr,out=bs.map Value.ref∧SortedA ks as bs:=by
 obtain⟨ps,hp,ho,hw,hf⟩:=h
 let g:Int×Addr→Int×Value:=fun q=>(q.1,Value.ref q.2)
 have gi: ∀x y,g x=g y→x=y:=by
  rintro⟨x1,x2⟩ ⟨y1,y2⟩ e
  have e1:x1=y1:=congrArg Prod.fst e
  have e2:Value.ref x2=Value.ref y2:=congrArg Prod.snd e
  cases e2
  rw[e1]
 have ez:(ks.zip as).map g=ks.zip (as.map Value.ref):=by
  rw[List.zip_map_right]
  rfl
 obtain⟨qs,e1,p1⟩:=perm_pull g hp _ ez
 subst e1
 refine⟨qs.map Prod.snd,?_,qs,p1,rfl,?_,fun c=>?_⟩
 ·rw[ho,List.map_map,List.map_map]
  rfl
 ·have:=List.pairwise_map.mp hw
  exact this.imp fun h=>by simpa using h
 ·have:=hf c
  rw[←ez,List.filter_map,List.filter_map]at this
  exact(List.map_inj_right gi).mp this
section
variable {X:Cx}
theorem Inv.two{pins:List (Addr×Obj)}{σ:St}{H:Hp}{s:Shared}{h':Heap}{t':Nat}{kS D:Addr}{ho:HO}{m0:Str→Option Value}(I:Inv X pins σ H s)(fk:FpOk X pins H kS)(fd:FpOk X pins H D)
  (hm:s.heap.Ns X.env.locals m0)(hm':h'.Ns X.env.locals m0)(k: ∀b o,b≠X.env.locals→b≠kS→b≠D→s.heap.get? b=some o→h'.get? b=some o)(new:ObjOk X.prog X.w (upd H D ho) h' D ho):
  Inv X pins σ (upd H D ho) {s with heap:=h',toks:=t'}:=by
 have nL: ∀b u,H b=some u→b≠X.env.locals:=fun b u e z=>by rw[z,I.free]at e;cases e
 have nK: ∀b u,H b=some u→b≠kS:=fun b u e z=>by rw[z,fk.1]at e;cases e
 have nD: ∀b u,H b=some u→b≠D:=fun b u e z=>by rw[z,fd.1]at e;cases e
 have mem: ∀b,b∉ [kS,D]→b≠kS∧b≠D:=fun b hb=>by simpa [not_or] using hb
 refine I.step (g':=s.gens) (d':=s.drawn) (ch:=[kS,D]) (fun b hb=>?_) (fun b o hL _ hc e _=>k b o hL (mem b hc).1 (mem b hc).2 e)
  (fun b o hL _ hc e _=>⟨o.slots,k b o hL (mem b hc).1 (mem b hc).2 e⟩) (fun b o hc _ n=>by rw[upd_ne (mem b hc).2];exact n)
  (fun b o hc e=>?_) (fun b xs e=>by rw[upd_ne (nD b _ e)];exact e) (fun b o u e=>by rw[upd_ne (nD b _ e)];exact e) (fun b ps e=>⟨#[],by rw[upd_ne (nD b _ e),e];simp⟩)
  (fun m hn=>by rw[ns_one hn hm];exact hm') (fun b u e=>?_) I.bare
 ·have hb':b=kS∨b=D:=by simpa using hb
  rcases hb' with z | z
  ·rw[z];exact⟨fk.2.2.2.1,fk.2.1,fk.2.2.2.2.1,fk.2.2.2.2.2⟩
  ·rw[z];exact⟨fd.2.2.2.1,fd.2.1,fd.2.2.2.2.1,fd.2.2.2.2.2⟩
 ·by_cases hL:b=X.env.locals
  ·obtain⟨o',_,_,e',_⟩:=hm'
   exact⟨o',by rw[hL];exact e'⟩
  ·exact⟨o,k b o hL (mem b hc).1 (mem b hc).2 e⟩
 ·by_cases hb:b=D
  ·rw[hb,upd_same]at e
   cases e
   rw[hb]
   exact new
  ·rw[upd_ne hb]at e
   refine(I.hok b u e).stay (fun c v hc q=>?_) (fun c q=>by rw[upd_ne (nD c _ q)];exact q) fun c xs q=>by rw[upd_ne (nD c _ q)];exact q
   rcases hc with z | z
   ·rw[z]at q ⊢;exact k b v (nL b u e) (nK b u e) hb q
   ·exact k c v (nL c _ z) (nK c _ z) (nD c _ z) q
theorem run_at{k:Nat}{f:Addr}{fd:FuncData}{ps:List Str}{sp:Sp}{A:Around}{pins:List (Addr×Obj)}{σ:St}{H:Hp}{s:Shared}{Q:VK}{us:List Value}{vs:List V}{m0:Str→Option Value}{R:Value→Shared→Prop}{E:Value→Shared→Prop}
  (F:FnOk X.prog X.w X.K X.mg X.base CX0 k f fd ps sp)(hr:Room k A)(h0:Env0 X.prog X.w X.K X.mg X.base A X.stack s H)(hb:Binds X.K fd ps [])(I:Inv X pins σ H s)(hm:s.heap.Ns X.env.locals m0)(r:Vals vs us)(h:sp vs H Q E0)
  (hR: ∀u s',EP X pins σ Q u s'→s'.heap.Ns X.env.locals m0→R u s'):wpAny (model X.prog X.w) A (call (.ref f) us) R E s:=by
 have hl:us.length=ps.length:=by rw[←r.length];exact F.len _ _ _ _ h
 have hb':=hb s us I.kIn (by rw[List.append_nil];exact hl)
 rw[List.append_nil]at hb'
 refine wpAny_call (codeAny_mono (F.run A X.stack s H ⟨us,[]⟩ us vs Q E0 hr h0 hb' r h) fun z s' hq=>?_)
 cases z with
 | error e=>exact(show False from hq).elim
 | ok fl=>
  cases fl with
  | ret u=>
   have hq':CE X.stack X.prog X.w H s Q u s':=hq
   refine hR u s' (I.after hq') ?_
   obtain⟨v,H',_,_,un,_⟩:=hq'
   obtain⟨o,es,ep,ho,d,rest⟩:=hm
   obtain⟨sl,hL⟩:=un.any ho I.free (by simp)
   exact⟨_,es,ep,hL,d,rest⟩
  | next=>exact False.elim hq
  | brk=>exact False.elim hq
  | cont=>exact False.elim hq
abbrev held2(kS D:Addr)(kA:Array Value)(e e1:Nat)(pins:List (Addr×Obj)):List (Addr×Obj):=(kS,seqObj "list" kA e)::(D,seqObj "list" #[] e1)::pins
theorem Inv.hold{pins:List (Addr×Obj)}{σ:St}{H:Hp}{s:Shared}{kS D:Addr}{kA:Array Value}{e e1:Nat}(I:Inv X pins σ H s)(fk:FpOk X pins H kS)(fd:FpOk X pins H D)
  (hk:s.heap.get? kS=some (seqObj "list" kA e))(hd:s.heap.get? D=some (seqObj "list" #[] e1)):Inv X (held2 kS D kA e e1 pins) σ H s:=by
 refine I.pins_of fun p hp=>?_
 rcases List.mem_cons.mp hp with rfl | hp
 ·exact⟨hk,fk.1,fk.2.1,fk.2.2.1,fun v q=>nomatch q⟩
 rcases List.mem_cons.mp hp with rfl | hp
 ·exact⟨hd,fd.1,fd.2.1,fd.2.2.1,fun v q=>nomatch q⟩
 ·exact I.pin p (List.mem_append_right _ hp)
theorem Inv.unhold{pins:List (Addr×Obj)}{σ:St}{H:Hp}{s:Shared}{kS D:Addr}{kA:Array Value}{e e1:Nat}(I:Inv X (held2 kS D kA e e1 pins) σ H s):Inv X pins σ H s∧s.heap.get? kS=some (seqObj "list" kA e)∧s.heap.get? D=some (seqObj "list" #[] e1):=
 ⟨I.pins_of fun p hp=>I.pin p (List.mem_append_right _ (List.mem_cons_of_mem _ (List.mem_cons_of_mem _ hp))),(I.pin _ (List.mem_append_right _ (List.mem_cons_self ..))).1,
  (I.pin _ (List.mem_append_right _ (List.mem_cons_of_mem _ (List.mem_cons_self ..)))).1⟩
variable {k:Nat}{f:Addr}{fd:FuncData}{ps:List Str}{sp:Sp}
def KeyCall(X:Cx)(σ:St)(H:Hp)(m0:Str→Option Value)(A:Around)(f:Value)(as:List Addr)(ks:List Int):Prop:=
 ∀(pins:List (Addr×Obj)) (i:Nat) (x:Addr) (z:Int) (s:Shared) (R:Value→Shared→Prop) (E:Value→Shared→Prop),as[i]? =some x→ks[i]? =some z→Inv X pins σ H s→s.heap.Ns X.env.locals m0→
  (∀u s2,EP X pins σ (fun v H3=>v= .int z∧H3=H) u s2→s2.heap.Ns X.env.locals m0→R u s2)→wpAny (model X.prog X.w) A (call f [.ref x]) R E s
theorem KeyCall.own{σ:St}{H:Hp}{m0:Str→Option Value}{A:Around}{as:List Addr}{ks:List Int}(F:FnOk X.prog X.w X.K X.mg X.base CX0 k f fd ps sp)(hr:Room k A)(hE: ∀s',Env0 X.prog X.w X.K X.mg X.base X.A X.stack s' H→Env0 X.prog X.w X.K X.mg X.base A X.stack s' H)(hb:Binds X.K fd ps [])
  (hsp: ∀(i:Nat) (x:Addr) (z:Int),as[i]? =some x→ks[i]? =some z→sp [.ref x] H (fun v H3=>v= .int z∧H3=H) E0):KeyCall X σ H m0 A (.ref f) as ks:=
 fun pins i x z s R E hx hz J hn hR=>run_at (A:=A) (us:=[.ref x]) (vs:=[.ref x]) F hr (hE s J.env0) hb J hn (.cons rfl .nil) (hsp i x z hx hz) hR
theorem rest_ok{pins:List (Addr×Obj)}{σ:St}{H:Hp}{s:Shared}{A:Around}{E:Value→Shared→Prop}{P:PySem.Fin→Shared→Prop}{kS D:Addr}{e1:Nat}{as:List Addr}{ks:List Int}{m0:Str→Option Value}{fv:Value}
  (hkey:KeyCall X σ H m0 A fv as ks)
  (fk:FpOk X pins H kS)(fD:FpOk X pins H D)(hne:kS≠D)(I:Inv X (held2 kS D #[] 0 e1 pins) σ H s)(hm:s.heap.Ns X.env.locals m0)(hlen:ks.length=as.length)(hZ:as.length≤sizeLine)
  (h: ∀(bs:List Addr) (s':Shared),SortedA ks as bs→Inv X pins σ (upd H D (.lst (bs.map V.ref))) s'→P (.done (.ret .none)) s'):
  wpAny (model X.prog X.w) A (ksk_rest D fv false (as.map Value.ref).toArray e1 (.ref kS)) P E s:=by
 have hlen2:ks.length=(as.map Value.ref).length :=by rw[List.length_map];exact hlen
 have hZ2:(as.map Value.ref).length ≤sizeLine:=by rw[List.length_map];exact hZ
 have hZ3:=hZ2
 rw[sizeLine_eq]at hZ3
 unfold ksk_rest
 refine wpAny_bind (wpAny_rule ?_)
 first
  | rw[List.forIn_toArray]
  | (rw[←Array.forIn_toList];simp only[List.toList_toArray])
 refine wpAny_bind (ksk_fold (fun i s'=> ∃(kA:Array Value) (e:Nat),Inv X (held2 kS D kA e e1 pins) σ H s'∧s'.heap.Ns X.env.locals m0∧IntsAre kA.toList (ks.take i)) (as.map Value.ref) 0 s ⟨#[],0,I,hm,by simpa using IntsAre.nil⟩ ?turn ?fin)
 case turn=>
  rintro j x s' hx ⟨kA,e,J,hn,hk⟩
  rw[Nat.zero_add]at hk ⊢
  rw[List.getElem?_map]at hx
  obtain⟨b,hbj,rfl⟩:=Option.map_eq_some_iff.mp hx
  have hj:j<as.length:=(List.getElem?_eq_some_iff.mp hbj).1
  obtain⟨z,hz⟩: ∃z,ks[j]? =some z:=⟨_,List.getElem?_eq_getElem (by omega)⟩
  have hsz:kA.size≤as.length:=by
   have q:=hk.length
   rw[Array.length_toList,List.length_take]at q
   omega
  have hsz2:kA.size<sizeLine:=by
   have q:=hk.length
   rw[Array.length_toList,List.length_take]at q
   omega
  refine wpAny_bind (wpAny_attempt (hkey _ j b z s' _ _ hbj hz J hn fun u s2 J2 hn2=>?_))
  obtain⟨v,H3,J3,rv,ev,eH⟩:=J2
  subst ev
  subst eH
  obtain⟨t,rfl⟩:=rv
  obtain⟨J4,gk,gd⟩:=J3.unhold
  have sb:=Heap.SameBut.update s2.heap kS (Obj.mapSeq (·.push (.int z t)))
  have gk2:=get?_update_seq gk (·.push (.int z t))
  try dsimp only
  refine wpAny_bind (listUpdate_at gk rfl ?_ (by omega) (by rw[Array.size_push];omega))
  have J5:Inv X pins σ H3 {s2 with heap:=s2.heap.update kS (Obj.mapSeq (·.push (.int z t)))}:=J4.turned (t':=s2.toks) (fun c o hc q=>(sb.2 c hc).trans q) fk.1 fk.2.1 fk.2.2.2.1 fk.2.2.2.2.1 fk.2.2.2.2.2
  refine wpAny_pure ⟨rfl,kA.push (.int z t),_,J5.hold fk fD gk2 ((sb.2 D hne.symm).trans gd),hn2.sameBut sb (Ne.symm fk.2.1),?_⟩
  rw[Array.toList_push,List.take_add_one,hz]
  exact ksk_snoc hk
 case fin=>
  rintro s' ⟨kA,e,J,hn,hk⟩
  have hk':IntsAre kA.toList ks:=by
   rw[Nat.zero_add,List.take_of_length_le (by omega)]at hk
   exact hk
  obtain⟨J4,gk,gd⟩:=J.unhold
  refine wpAny_bind (listItems_at gk rfl ?_)
  have mem: ∀b o,(b,o)∈(Att.ledger s'.heap X.env.locals kS).filter (fun p=>decide (p.1≠D))↔b≠X.env.locals∧b≠kS∧b≠D∧s'.heap.get? b=some o:=fun b o=>by
   rw[List.mem_filter,Att.mem_ledger,decide_eq_true_eq]
   exact⟨fun q=>⟨q.1.1,q.1.2.1,q.2,q.1.2.2⟩,fun q=>⟨⟨q.1,q.2.1,q.2.2.2⟩,q.2.2.1⟩⟩
  refine ksk_end_St (kz:=ks) (vs:=as.map Value.ref) (e:=e) (m:=m0) (news:=(Att.ledger s'.heap X.env.locals kS).filter fun p=>decide (p.1≠D)) (Att.fr_all hn) (fun p hp=>?_) hne (fun p hp=>((mem p.1 p.2).mp hp).2.1) (fun p hp=>((mem p.1 p.2).mp hp).2.2.1) hk' hlen2 hZ2
   fun h' tk out c F' N' ko=>?_
  ·rcases List.mem_append.mp hp with hp | hp
   ·obtain⟨q1,q2,q3,q4⟩:=(mem p.1 p.2).mp hp
    exact⟨q4,q1,Att.noObjs_get _ _⟩
   rcases List.mem_cons.mp hp with rfl | hp
   ·exact⟨gk,fk.2.1,Att.noObjs_get _ _⟩
   ·rw[List.mem_singleton.mp hp]
    exact⟨gd,fD.2.1,Att.noObjs_get _ _⟩
  ·obtain⟨bs,eo,so⟩:=sortedA_of ko
   have gD:=(N' (D,seqObj "list" out c) (List.mem_cons_self ..)).1
   have eo2:out=(bs.map Value.ref).toArray :=by rw[←eo]
   have bl:bs.length=as.length:=by
    obtain⟨qs,p1,e2,_⟩:=so
    rw[e2,List.length_map,p1.length_eq,List.length_zip]
    omega
   refine h bs _ so (J4.two (t':=tk) (m0:=m0) fk fD hn F'.ns (fun b o h1 h2 h3 e=>(N' (b,o) (List.mem_cons_of_mem _ ((mem b o).mpr ⟨h1,h2,h3,e⟩))).1) ?_)
   exact⟨by rw[List.length_map,bl];exact hZ,bs.map Value.ref,c,vals_refs bs,by rw[gD,eo2]⟩
theorem sortG_ok{pins:List (Addr×Obj)}{σ:St}{H:Hp}{s:Shared}{Q:VK}{a:Addr}{as:List Addr}{ks:List Int}{fv:Value}(ht: ∀x,Builtin.«list.sort» ⟨[.ref x],[(Str.ofString "key",fv)]⟩=ksk_tree x fv false)
  (hkey: ∀m0,KeyCall X σ H m0 X.A.in1.in1 fv as ks)(I:Inv X pins σ H s)(hq:SqL X.K H a (as.map V.ref))(hlen:ks.length=as.length)
  (h: ∀(D:Addr) (bs:List Addr),H D=none→SortedA ks as bs→Q (.ref D) (upd H D (.lst (bs.map V.ref)))):
  wpAny (model X.prog X.w) X.A (call (.builtin "sorted") [.ref a] [(Str.ofString "key",fv)]) (EP X pins σ Q) X.xe s:=by
 obtain⟨its,rv,pl,hz⟩:=I.list hq
 have ei:=refs_of rv
 subst ei
 rw[List.length_map]at hz
 have hz2:(as.map Value.ref).length ≤sizeLine:=by rw[List.length_map];exact hz
 obtain⟨m0,hm,_⟩:=id I.loc
 have hl:=pl.isList
 refine call_function_entry_kw kind_sorted plain_sorted entry_sorted (ksk_s1 _ _) ?_
 unfold Builtin.«sorted»
 refine wpAny_bind (m:=checkCount "sorted" 1 1 _) (wpAny_pure (wpAny_bind (collect_list hl (wpAny_bind (wpAny_newList ?_ hz2)) hz2)))
 have sA:((s.heap.push (seqObj "list" #[] 0)).update s.heap.objs.size (Obj.mapSeq (· ++(as.map Value.ref).toArray))).objs.size =s.heap.objs.size+1:=by rw[Heap.size_update,size_push']
 have kA: ∀b o,s.heap.get? b=some o→((s.heap.push (seqObj "list" #[] 0)).update s.heap.objs.size (Obj.mapSeq (· ++(as.map Value.ref).toArray))).get? b=some o:=fun b o q=>by
  have hlt:b<s.heap.objs.size:=Heap.lt_size q
  rw[Heap.get?_update_ne _ _ _ _ (Nat.ne_of_lt hlt),Heap.get?_push_ne _ _ _ (Nat.ne_of_lt hlt)]
  exact q
 generalize ((s.heap.push (seqObj "list" #[] 0)).update s.heap.objs.size (Obj.mapSeq (· ++(as.map Value.ref).toArray)))=hA at sA kA ⊢
 have gD:(hA.push (seqObj "list" (as.map Value.ref).toArray 0)).get? hA.objs.size=some (seqObj "list" (as.map Value.ref).toArray 0):=Heap.get?_push_size _ rfl
 have kB: ∀b o,s.heap.get? b=some o→(hA.push (seqObj "list" (as.map Value.ref).toArray 0)).get? b=some o:=fun b o q=>Heap.get?_push_of_some _ (kA b o q)
 have sB:(hA.push (seqObj "list" (as.map Value.ref).toArray 0)).objs.size =s.heap.objs.size+2:=by rw[size_push',sA]
 show wpAny _ _ _ _ _ {s with heap:=hA.push (seqObj "list" (as.map Value.ref).toArray 0)}
 generalize hDe:hA.objs.size=D at gD ⊢
 have hD:D=s.heap.objs.size+1:=by rw[←hDe,sA]
 generalize (hA.push (seqObj "list" (as.map Value.ref).toArray 0))=hB at gD kB sB ⊢
 refine wpAny_bind (wpAny_holding (wpAny_call_entry_kw slot_list_sort ⟨_,gD,rfl⟩ entry_list_sort ?body (ksk_l1 _ _)))
 show wpAny (model X.prog X.w) X.A.in1.in1 (Builtin.«list.sort» ⟨[.ref D],[(Str.ofString "key",fv)]⟩) _ _ _
 rw[ht D]
 unfold ksk_tree
 have sb:=Heap.SameBut.update hB D (Obj.mapSeq fun _=>(#[]:Array Value))
 have gD2:=get?_update_seq gD fun _=>(#[]:Array Value)
 refine wpAny_bind (listItems_at gD rfl (wpAny_bind (listUpdate_at gD rfl ?_ (by rw[List.size_toArray];exact hz2) (Nat.zero_le _))))
 have sC:(hB.update D (Obj.mapSeq fun _=>(#[]:Array Value))).objs.size =s.heap.objs.size+2:=by rw[Heap.size_update,sB]
 have kC: ∀b o,s.heap.get? b=some o→(hB.update D (Obj.mapSeq fun _=>(#[]:Array Value))).get? b=some o:=fun b o q=>(sb.2 b (by rw[hD];exact Nat.ne_of_lt (Nat.lt_succ_of_lt (Heap.lt_size q)))).trans (kB b o q)
 generalize (hB.update D (Obj.mapSeq fun _=>(#[]:Array Value)))=hC at gD2 sC kC ⊢
 refine wpAny_bind (seqEpoch_at gD2 rfl (wpAny_bind (wpAny_newTuple ?_ hz2)))
 refine wpAny_bind (wpAny_newList (wpAny_holding ?_) (Nat.zero_le _))
 show wpAny _ _ _ _ _ {s with heap:=(hC.push (seqObj "tuple" (as.map Value.ref).toArray 0)).push (seqObj "list" #[] 0)}
 have sE:(hC.push (seqObj "tuple" (as.map Value.ref).toArray 0)).objs.size =s.heap.objs.size+3:=by rw[size_push',sC]
 have hk1:s.heap.objs.size≤(hC.push (seqObj "tuple" (as.map Value.ref).toArray 0)).objs.size :=by rw[sE];omega
 have hd1:s.heap.objs.size≤D:=by rw[hD];omega
 have hkd:(hC.push (seqObj "tuple" (as.map Value.ref).toArray 0)).objs.size ≠D:=fun q=>(by have q2:=sE.symm.trans (q.trans hD);exact absurd q2 (by omega))
 have fk:=I.fpOk hk1 (I.hok.fresh hk1)
 have fD:=I.fpOk hd1 (I.hok.fresh hd1)
 have kE: ∀b o,s.heap.get? b=some o→((hC.push (seqObj "tuple" (as.map Value.ref).toArray 0)).push (seqObj "list" #[] 0)).get? b=some o:=fun b o q=>Heap.get?_push_of_some _ (Heap.get?_push_of_some _ (kC b o q))
 have J:Inv X pins σ H {s with heap:=(hC.push (seqObj "tuple" (as.map Value.ref).toArray 0)).push (seqObj "list" #[] 0)}:=I.kept (t':=s.toks) kE
 have hm2:((hC.push (seqObj "tuple" (as.map Value.ref).toArray 0)).push (seqObj "list" #[] 0)).Ns X.env.locals m0:=by
  obtain⟨o,es,ep,e,rest⟩:=hm
  exact⟨o,es,ep,kE _ _ e,rest⟩
 refine rest_ok (A:=X.A.in1.in1) (m0:=m0) (hkey m0) fk fD hkd (J.hold fk fD (Heap.get?_push_size _ rfl) (Heap.get?_push_of_some _ (Heap.get?_push_of_some _ gD2))) hm2 hlen hz fun bs s' so J'=>?_
 exact⟨_,rfl,wpAny_pure ⟨_,rfl,⟨.ref D,_,J',rfl,h D bs (I.hok.fresh hd1) so⟩⟩⟩
theorem sortK_ok{pins:List (Addr×Obj)}{σ:St}{H:Hp}{s:Shared}{Q:VK}{a:Addr}{as:List Addr}{ks:List Int}
  (F:FnOk X.prog X.w X.K X.mg X.base CX0 k f fd ps sp)(hr:Room (k+2) X.A)(hb:Binds X.K fd ps [])(I:Inv X pins σ H s)(hq:SqL X.K H a (as.map V.ref))(hlen:ks.length=as.length)
  (hsp: ∀(i:Nat) (x:Addr) (z:Int),as[i]? =some x→ks[i]? =some z→sp [.ref x] H (fun v H3=>v= .int z∧H3=H) E0)
  (h: ∀(D:Addr) (bs:List Addr),H D=none→SortedA ks as bs→Q (.ref D) (upd H D (.lst (bs.map V.ref)))):
  wpAny (model X.prog X.w) X.A (call (.builtin "sorted") [.ref a] [(Str.ofString "key",.ref f)]) (EP X pins σ Q) X.xe s:=
 sortG_ok (ksk_t1 f) (fun _=>KeyCall.own F hr.in1.in1 (fun _ e=>e.in1.in1) hb hsp) I hq hlen h
def tSortK(K:PySem.W.Frag)(sp:Sp)(te:TE):TE:=fun σ H Q=>te σ H fun x H1=> ∃(a:Addr) (as:List Addr) (ks:List Int),x= .ref a∧SqL K H1 a (as.map V.ref)∧ks.length=as.length∧
 (∀(i:Nat) (b:Addr) (z:Int),as[i]? =some b→ks[i]? =some z→sp [.ref b] H1 (fun v H3=>v= .int z∧H3=H1) E0)∧
 ∀(D:Addr) (bs:List Addr),H1 D=none→SortedA ks as bs→Q (.ref D) (upd H1 D (.lst (bs.map V.ref)))
theorem pe_sortK{e:Expr}{te:TE}{g:Str}{p pos pk gp:Pos}(F:FnOk X.prog X.w X.K X.mg X.base CX0 k f fd ps sp)(hr:Room (k+2) X.A)(hb:Binds X.K fd ps [])(hg:Gl X "sorted")(hm:X.mg "sorted"=none)(hgf:Gl X g)(hmf:X.mg g=some (.ref f))(ha:PA X [e] (tCons te tNil))
  (hdb:(g==("__debug__":Str))=false:=by decide)
  (h1:backTo pos (starEach [e] X.env)=(false,eval e X.env)::backTo pos (starEach [] X.env):=by rfl)(h2:(backTo pos (starEach [e] X.env)).any (·.1)=false:=by rfl):
  PE X (.Call (.Name "sorted" p) [e] [⟨some "key",.Name g gp,pk⟩] pos) (tSortK X.K sp te):=by
 intro pins s σ H Q I h
 refine wpAny_Call_Name_kw (ld_blt I hg hm boot_sorted (callWith_kw ?_ h1 h2 rfl rfl))
 refine thn (ha pos pins s σ H (fun vs H1=>match vs with
  | [x]=> ∃(a:Addr) (as:List Addr) (ks:List Int),x= .ref a∧SqL X.K H1 a (as.map V.ref)∧ks.length=as.length∧
   (∀(i:Nat) (b:Addr) (z:Int),as[i]? =some b→ks[i]? =some z→sp [.ref b] H1 (fun v H3=>v= .int z∧H3=H1) E0)∧
   ∀(D:Addr) (bs:List Addr),H1 D=none→SortedA ks as bs→Q (.ref D) (upd H1 D (.lst (bs.map V.ref)))
  | _=>False) I h) fun us s1 ⟨vs,H1,I1,r1,q1⟩=>?_
 match vs,r1,q1 with
 | [x],r1,q1=>
  obtain⟨a,as,ks,rfl,hq,hl,hsp,q⟩:=q1
  obtain⟨u,rfl,ru⟩:=vals1 r1
  obtain rfl:u=Value.ref a:=ru
  refine thn ((pk_cons (pe_glob hgf hmf (v:= .ref f) rfl hdb) pk_nil) pos pins s1 σ H1 (fun zs H2=>zs=[.ref f]∧H2=H1) I1 ⟨rfl,rfl⟩) fun kvs s2 ⟨zs,H2,I2,r2,ez,eH⟩=>?_
  subst ez
  subst eH
  obtain⟨v,rfl,rv⟩:=vals1 r2
  obtain rfl:v=Value.ref f:=rv
  exact sortK_ok F hr hb I2 hq hl hsp q
theorem KeyCall.len{σ:St}{H:Hp}{m0:Str→Option Value}{A:Around}{as:List Addr}{ks:List Int}(h: ∀(i:Nat) (x:Addr) (z:Int),as[i]? =some x→ks[i]? =some z→ ∃ys:List V,SqL X.K H x ys∧z=ys.length):KeyCall X σ H m0 A (.builtin "len") as ks:=
 fun pins i x z s R E hx hz J hn hR=>by
  obtain⟨ys,hq,rfl⟩:=h i x z hx hz
  obtain⟨its,r,pl,hzz⟩:=J.list hq
  have hlen:=r.length
  have h63:=line63
  exact Calls.call_len_list pl.isList (by simp only[List.size_toArray]<;>omega) (hR _ _ ⟨.int ys.length,H,J.tok _,⟨s.toks+1,by rw[List.size_toArray,hlen]⟩,rfl,rfl⟩ hn)
def tSortLen(K:PySem.W.Frag)(te:TE):TE:=fun σ H Q=>te σ H fun x H1=> ∃(a:Addr) (as:List Addr) (ks:List Int),x= .ref a∧SqL K H1 a (as.map V.ref)∧ks.length=as.length∧
 (∀(i:Nat) (b:Addr) (z:Int),as[i]? =some b→ks[i]? =some z→ ∃ys:List V,SqL K H1 b ys∧z=ys.length)∧ ∀(D:Addr) (bs:List Addr),H1 D=none→SortedA ks as bs→Q (.ref D) (upd H1 D (.lst (bs.map V.ref)))
theorem pe_sortLen{e:Expr}{te:TE}{p pos pk gp:Pos}(hg:Gl X "sorted")(hm:X.mg "sorted"=none)(hgl:Gl X "len")(hml:X.mg "len"=none)(ha:PA X [e] (tCons te tNil))
  (h1:backTo pos (starEach [e] X.env)=(false,eval e X.env)::backTo pos (starEach [] X.env):=by rfl)(h2:(backTo pos (starEach [e] X.env)).any (·.1)=false:=by rfl):
  PE X (.Call (.Name "sorted" p) [e] [⟨some "key",.Name "len" gp,pk⟩] pos) (tSortLen X.K te):=by
 intro pins s σ H Q I h
 refine wpAny_Call_Name_kw (ld_blt I hg hm boot_sorted (callWith_kw ?_ h1 h2 rfl rfl))
 refine thn (ha pos pins s σ H (fun vs H1=>match vs with
  | [x]=> ∃(a:Addr) (as:List Addr) (ks:List Int),x= .ref a∧SqL X.K H1 a (as.map V.ref)∧ks.length=as.length∧
   (∀(i:Nat) (b:Addr) (z:Int),as[i]? =some b→ks[i]? =some z→ ∃ys:List V,SqL X.K H1 b ys∧z=ys.length)∧ ∀(D:Addr) (bs:List Addr),H1 D=none→SortedA ks as bs→Q (.ref D) (upd H1 D (.lst (bs.map V.ref)))
  | _=>False) I h) fun us s1 ⟨vs,H1,I1,r1,q1⟩=>?_
 match vs,r1,q1 with
 | [x],r1,q1=>
  obtain⟨a,as,ks,rfl,hq,hl,hks,q⟩:=q1
  obtain⟨u,rfl,ru⟩:=vals1 r1
  obtain rfl:u=Value.ref a:=ru
  exact kws_cons (ld_blt I1 hgl hml PySem.boot_len (kws_nil (sortG_ok (ksk_t4 "len") (fun _=>KeyCall.len hks) I1 hq hl q)))
end
section
variable {X:Cx}{s:Shared}{H0:Hp}{scope:Scope}{env:Env}{fp:List Addr}
theorem bk_tup{pos:Pos}{es:List Expr}{k:Nat}{t:TGs}{n:Nat}(hc:(X.blk s H0 scope env fp).calm =true)(h:PGs (X.blk s H0 scope env fp) es t)
  (hn:(assignEach es (X.blk s H0 scope env fp).env).length =n:=by rfl)(hst:(assignEach es (X.blk s H0 scope env fp).env).findIdx? (·.1)=none:=by rfl):
  PG (X.blk s H0 scope env fp) (.Tuple es k pos) (gTup X.K n t):=pg_tup hc h hn hst
end
theorem lc_enum{K:PySem.W.Frag}{a:Addr}{xs:List V}{g:TG}{tt:TT}{te:TE}{vs:List Nat}{σ:St}{H1:Hp}{D:Addr}{Qd:Hp→Prop}(Pv:Nat→Hp→Prop)(h0:Pv 0 (upd H1 D (.lst [])))(hl: ∀i H,i≤xs.length→Pv i H→SqL K H a xs)
  (hs: ∀i x H T,xs[i]? =some x→Pv i H→H T=none→g (.ref T) (wipe σ vs) (upd H T (.tup [.int (i:Nat),x])) fun σ2 H2=>wipe σ2 vs=wipe σ vs∧tt σ2 H2 fun b H3=>
   if b=true then te σ2 H3 fun y H4=> ∃acc,H4 D=some (.lst acc)∧acc.length<sizeLine∧Pv (i+1) (upd H4 D (.lst (acc++[y])))else Pv (i+1) H3)(hd: ∀H,Pv xs.length H→Qd H):
  ∃W:Nat→Nat→Hp→Prop,(∃m,W 0 m (upd H1 D (.lst [])))∧ ∀i m H,W i m H→
   ((Ite K a).stop i H∧Qd H)∨((Ite K a).go i H∧ ∃Nx:Hp→Prop,(∀H',Nx H'→ ∃m',m'<m∧W (i+1) m' H')∧ ∀x H',(Ite K a).yld i H x H'→g x (wipe σ vs) H' fun σ2 H2=>wipe σ2 vs=wipe σ vs∧tt σ2 H2 fun b H3=>
    if b=true then te σ2 H3 fun y H4=> ∃acc,H4 D=some (.lst acc)∧acc.length<sizeLine∧Nx (upd H4 D (.lst (acc++[y])))else Nx H3):=by
 refine⟨fun i m H=>m+i=xs.length∧Pv i H,⟨xs.length,rfl,h0⟩,fun i m H hw=>?_⟩
 obtain⟨em,p⟩:=hw
 have q:=hl i H (by omega) p
 by_cases hlt:i<xs.length
 ·have hx:xs[i]? =some xs[i]:=List.getElem?_eq_getElem hlt
  refine .inr ⟨⟨xs,xs[i],q,hx⟩,Pv (i+1),fun H' p'=>⟨m-1,by omega,by omega,p'⟩,fun x H' y=>?_⟩
  obtain⟨T,z,rfl,hT,rfl,hz⟩:=y
  exact hs i z H T (hz xs q) p hT
 ·obtain rfl:i=xs.length:=by omega
  exact .inl ⟨⟨xs,q,Nat.le_refl _⟩,hd H p⟩
abbrev kwStart(v:Value):List (Str×Value):=[(Str.ofString "start",v)]
theorem enumS_tc(a v:Value):checkTypeCall "enumerate" ⟨[a],kwStart v⟩=pure ():=by kernel_rfl
theorem enumS_nc(a v:Value):checkBuiltinCall "enumerate.__new__" ⟨[.type "enumerate",a],kwStart v⟩=pure ():=by kernel_rfl
theorem enumS_ok(o a v:Value):argsOk "object.__init__" ⟨[o,a],kwStart v⟩:=by unfold argsOk;kernel_rfl
open AutoSeq1 (wpAny_loadPart')in
theorem enumS_new(l:Addr)(items:Array Value)(n:Nat)(dct:Option Addr)(sl:Array (Option Value))(t:Tok):
  Meets (Builtin.«enumerate.__new__» ⟨[.type "enumerate",.ref l],kwStart (.int 1 t)⟩) (fun _ R s=>s.heap.get? l=some {cls:= .type "list",dict:=dct,data:= .seq items n,slots:=sl}∧
   R (.ok (.ret (.ref (s.heap.push {cls:= .type "list_iterator",data:= .fields #[.ref l,.int 0 0]}).objs.size)))
    {s with heap:=(s.heap.push {cls:= .type "list_iterator",data:= .fields #[.ref l,.int 0 0]}).push {cls:= .type "enumerate",data:= .fields #[.none,.bool false,.ref s.heap.objs.size,rawInt 1,.none,.none]}}):=
 .of_wp fun prog w A R s h=>by
  obtain⟨hp,g,d,tk,os⟩:=s
  obtain⟨hl,h⟩:=h
  have hsub:=sub_enumerate
  have hL:Heap.IsList (Shared.heap ⟨hp,g,d,tk,os⟩) l items:=⟨_,hl,rfl,n,rfl⟩
  wp_walk using wpAny_loadPart' hl
  refine wpAny_stack_any fun frames=>wpAny_pure ?_
  split
  ·rename_i c0 _ _ _ _ _
   cases (c0==Value.type "enumerate")<;>(wp_walk using wpAny_loadPart' hl,wpAny_pyIter_list hL;exact⟨_,rfl,h⟩)
  ·(wp_walk using wpAny_loadPart' hl,wpAny_pyIter_list hL;exact⟨_,rfl,h⟩)
theorem enumS_init{self a v:Value}:Meets (Builtin.«object.__init__» ⟨[self,a],kwStart v⟩) (fun _ R s=>s.TypeIs self "enumerate"∧R (.ok (.ret .none)) s):=by
 have hl:=F.called_enumerate.init.lookup
 have hm:=F.called_enumerate.made
 have hne:(some "enumerate.__new__" != some "object.__new__")=true:=by decide
 refine Meets.of_wp fun prog w A R s hs=>?_
 obtain⟨hT,hq⟩:=hs
 repeat (any_goals (first | assumption | wp_step))
 exact⟨_,rfl,hq⟩
section
variable {prog:Program}{w:World}{A:Around}{E:Value→Shared→Prop}{s:Shared}
theorem call_enumS{l:Addr}{items:Array Value}{t:Tok}{Q:Value→Shared→Prop}(hL:s.heap.IsList l items)
  (h: ∀h',IsEnum h' (s.heap.objs.size+1) s.heap.objs.size 1 .none →h'.IsListIter s.heap.objs.size l 0→h'.objs.size=s.heap.objs.size+2→(∀b o,s.heap.get? b=some o→h'.get? b=some o)→Q (.ref (s.heap.objs.size+1)) {s with heap:=h'}):
  wpAny (model prog w) A (call (.type "enumerate") [.ref l] (kwStart (.int 1 t))) Q E s:=by
 obtain⟨⟨cl,dct,dt,sl⟩,hl,hc,n,hd⟩:=hL
 obtain rfl:cl= .type "list":=hc
 obtain rfl:dt= .seq items n:=hd
 have ft:=F.called_enumerate
 obtain⟨c,tl,hmro⟩:=ft.mro
 have hmade:=ft.made
 have hsub:=ft.sub
 have h1:=ft.notType
 have h2:=ft.canCreate
 have hct:=enumS_tc (.ref l) (.int 1 t)
 refine wpAny_call (codeAny_of_tree ?_)
 show wpAny (model prog w) _ (callAny (.type "enumerate") _) _ _ _
 refine wpAny_pure ⟨Code.quiet_builtin _ (by decide +kernel),codeAny_builtin F.entry_type_call ?_⟩
 rw[Around.under_plain (weight_type_call_type "enumerate" [.ref l] (kwStart (.int 1 t))) (units_type_call_type "enumerate" [.ref l] (kwStart (.int 1 t)))]
 repeat (any_goals (first | assumption | wp_step))
 have hz:(s.heap.push {cls:= .type "list_iterator",data:= .fields #[.ref l,.int 0 0]}).objs.size =s.heap.objs.size+1:=Heap.size_push ..
 have he:IsEnum ((s.heap.push {cls:= .type "list_iterator",data:= .fields #[.ref l,.int 0 0]}).push
   {cls:= .type "enumerate",data:= .fields #[.none,.bool false,.ref s.heap.objs.size,rawInt 1,.none,.none]}) (s.heap.objs.size+1) s.heap.objs.size 1 .none :=by
  have q:=Heap.get?_push_size (s.heap.push {cls:= .type "list_iterator",data:= .fields #[.ref l,.int 0 0]})
   (o:={cls:= .type "enumerate",data:= .fields #[.none,.bool false,.ref s.heap.objs.size,rawInt 1,.none,.none]}) rfl
  rw[hz]at q
  exact q
 refine codeAny_mono (codeAny_call_builtin ft.plain F.entry_enumerate_new (wpAny_of_eq (enumS_nc (.ref l) (.int 1 t)) (enumS_new l items n dct sl t prog w A.in1
  (wants (fun obj s1=>s1.TypeIs obj "enumerate"∧Q obj s1) E) s ⟨hl,?made⟩))) fun r s1 hr=>?_
 case made=>
  show _∧_
  rw[hz]
  exact⟨⟨_,he,rfl⟩,h _ he ⟨_,Heap.get?_push_of_some _ (Heap.get?_push_size _ rfl),rfl,rfl⟩ (by rw[Heap.size_push,hz]) fun b o x=>Heap.get?_push_of_some _ (Heap.get?_push_of_some _ x)⟩
 cases r with
 | error e=>exact hr
 | ok fl=>
  cases fl with
  | ret obj=>
   obtain⟨hT,hQ⟩:=hr
   have hli:=ft.init.lookup
   have hbi:=ft.init.bind obj
   repeat (any_goals (first | assumption | wp_step))
   refine codeAny_mono (codeAny_call_builtin ft.init.plain F.entry_object_init (ft.init.check _ _ _ _ _ _ _ _ hT (enumS_ok obj (.ref l) (.int 1 t)) (enumS_init prog w A.in1 (wants (fun r s2=>r= .none ∧Q obj s2) E) s1 ⟨hT,rfl,hQ⟩))) fun r2 s2 hr2=>?_
   cases r2 with
   | error e=>exact hr2
   | ok fl2=>
    cases fl2 with
    | ret r=>
     obtain⟨rfl,hq⟩:=hr2
     repeat (any_goals (first | assumption | wp_step))
    | next=>exact hr2.elim
    | brk=>exact hr2.elim
    | cont=>exact hr2.elim
  | next=>exact hr.elim
  | brk=>exact hr.elim
  | cont=>exact hr.elim
end
theorem drawsUp{prog:Program}{w:World}{A:Around}{it:Addr}{fp:List Addr}{n:Nat}{P:Nat→Value→Prop}{St:Nat→Heap→Prop}(D:Draws prog w A it fp n P St):
  Draws prog w A it fp (n+1) (fun j x=> ∃i,j=i+1∧P i x) (fun j h=> ∃i,j=i+1∧St i h) where
 live:=fun j h ⟨i,_,st⟩=>D.live i h st
 frame:=fun j h h' ⟨i,e,st⟩ k=>⟨i,e,D.frame i h h' st k⟩
 item:=fun j s Q E hj ⟨i,e,st⟩ hQ=>D.item i s Q E (by omega) st fun x h' tk p st' sb=>hQ x h' tk ⟨i,e,p⟩ ⟨i+1,by omega,st'⟩ sb
 done:=fun s Q E ⟨i,e,st⟩ hE=>by
  obtain rfl:i=n:=by omega
  exact D.done s Q E st hE
theorem enum_ne{h:Heap}{a it:Addr}{items:Array Value}{i:Nat}(hl:h.IsList a items)(hi:h.IsListIter it a i):a≠it:=by
 obtain⟨o,h1,hc,_⟩:=hl
 obtain⟨o2,h2,hc2,_⟩:=hi
 rintro rfl
 rw[h1]at h2
 cases h2
 rw[hc]at hc2
 exact absurd (Value.type.inj hc2) (by decide)
theorem enum_ne2{h:Heap}{a e it:Addr}{items:Array Value}{i:Int}{old:Value}(hl:h.IsList a items)(hi:IsEnum h e it i old): ¬e=a:=by
 obtain⟨o,h1,hc,_⟩:=hl
 rintro rfl
 have h2:h.get? e=some _:=hi
 rw[h1]at h2
 cases h2
 exact absurd (Value.type.inj hc) (by decide)
def Ite1(K:PySem.W.Frag)(a:Addr):It:=
 ⟨fun i H=> ∃(xs:List V) (x:V),SqL K H a xs∧xs[i]? =some x,fun i H v H'=> ∃T x,v= .ref T∧H T=none∧H'=upd H T (.tup [.int ((i+1:Nat):Int),x])∧ ∀xs,SqL K H a xs→xs[i]? =some x,fun i H=> ∃xs:List V,SqL K H a xs∧xs.length=i⟩
theorem turn_enum1{P:Program}{w:World}{K:PySem.W.Frag}{elts:List Expr}{kk:Nat}{tpos:Pos}(a e it:Addr):
  Turn P w K (.Tuple elts kk tpos) (Ite1 K a) [e,it] e (fun i h=>(∃old,IsEnum h e it ((i+1:Nat):Int) old)∧h.IsListIter it a i∧e≠it) where
 mem:=by simp
 obj:=fun i h st b hb=>by
  obtain⟨⟨old,he⟩,⟨o,ho,hc,hd⟩,_⟩:=st
  have e':b=e∨b=it:=by simpa using hb
  rcases e' with z | z
  ·rw[z];exact⟨_,he,fun v q=>nomatch q⟩
  ·rw[z];exact⟨o,ho,fun v q=>by rw[hd]at q;cases q⟩
 keep:=fun i h h' st k=>let ⟨⟨old,he⟩,hi,hne⟩:=st;⟨⟨old,k e (by simp) _ he⟩,hi.at fun o q=>k it (by simp) o q,hne⟩
 item:=by
  intro X hP hw hK hc i pins s σ H E I hf st hg
  subst hP hw hK
  obtain⟨⟨old,he⟩,hit,hne⟩:=st
  obtain⟨xs,x,hq,hx⟩:=hg
  obtain⟨its,rv,p,hz⟩:=I.list hq
  obtain⟨u,hu,ru⟩:=rv.get hx
  have hel:e<s.heap.objs.size:=Heap.lt_size he
  have hil:it<s.heap.objs.size:=by obtain⟨_,q,_⟩:=hit;exact Heap.lt_size q
  refine wpAny_pyNext_enum_itemD (drawsUp (Draws.list (A:=X.A.in1) (I.ok.hd hc) it a (enum_ne p.isList hit) its.toArray)) he ⟨i,rfl,hit,p.isList⟩ (Nat.succ_lt_succ (by rw[List.size_toArray];exact(List.getElem?_eq_some_iff.mp hu).1)) hne (by simp[hne,enum_ne2 p.isList he]) fun x0 h' tk hP0 ho hSt hT hsz hk=>?_
  obtain⟨i0,ei0,hx0⟩:=hP0
  have e0:i=i0:=by omega
  subst e0
  have e1:u=x0:=by
   have q1:its[i]? =some x0:=by simpa using hx0
   rw[hu]at q1
   exact Option.some.inj q1
  subst e1
  obtain⟨i1,ei1,hit',_⟩:=hSt
  have e2:i+1=i1:=by omega
  subst e2
  refine⟨_,rfl,wpAny_letOwnedTupleGo_enum (s:={s with heap:=h',toks:=tk+1}) ho fun h'' he' sb=>?_⟩
  have hT2:h''.get? s.heap.objs.size=some {cls:= .type "tuple",data:= .seq #[.int ((i+1:Nat):Int) tk,u]}:=(sb.2 _ (Nat.ne_of_gt hel)).trans hT
  have new:ObjOk X.prog X.w (upd H s.heap.objs.size (.tup [.int ((i+1:Nat):Int),x])) h'' s.heap.objs.size (.tup [.int ((i+1:Nat):Int),x]):=
   ⟨by show 2≤sizeLine;decide,[.int ((i+1:Nat):Int) tk,u],.cons ⟨_,rfl⟩ (.cons ru .nil),⟨_,hT2,rfl,_,rfl⟩⟩
  have I1:Inv X pins σ (upd H s.heap.objs.size (.tup [.int ((i+1:Nat):Int),x])) {s with heap:=h'',toks:=tk+1}:=
   I.turnedNew (ch:=[e,it]) (fun b ob hb q=>(sb.2 b (fun z=>hb (by simp[z]))).trans (hk b ob (fun z=>hb (by simp[z])) (fun z=>hb (by simp[z])) q)) hf (Nat.le_refl _) new
  refine⟨.ref s.heap.objs.size,_,I1,rfl,⟨_,x,rfl,I.hok.fresh (Nat.le_refl _),rfl,fun ys hy=>by rw[I.list_inj hy hq];exact hx⟩,⟨⟨u,?_⟩,hit'.at fun o q=>(sb.2 it (Ne.symm hne)).trans q,hne⟩,fun b hb=>?_⟩
  ·have e1:((i+1+1:Nat):Int)=((i+1:Nat):Int)+1:=by omega
   rw[e1];exact he'
  ·have hb':b<s.heap.objs.size:=by
    have e':b=e∨b=it:=by simpa using hb
    rcases e' with z | z
    ·rw[z];exact hel
    ·rw[z];exact hil
   rw[upd_ne (Nat.ne_of_lt hb')]
   exact(hf b hb).1
 done:=by
  intro X hP hw hK hc i pins s σ H E I hf st hg
  subst hP hw hK
  obtain⟨⟨old,he⟩,hit,hne⟩:=st
  obtain⟨xs,hq,hx⟩:=hg
  obtain⟨its,rv,p,hz⟩:=I.list hq
  obtain⟨f0,f1,f2,f3,f4,f5⟩:=hf it (by simp)
  have hl:=rv.length
  exact wpAny_pyNext_enum_endD (Draws.list (A:=X.A.in1) (I.ok.hd hc) it a (enum_ne p.isList hit) its.toArray) he (by
   have hil:i=its.length:=by rw[←rv.length];exact hx.symm
   rw[List.size_toArray,←hil]
   exact⟨hit,p.isList⟩) fun h' eb=>⟨rfl,I.turned (t':=s.toks) (fun b o hb q=>eb b o hb q) f0 f1 f3 f4 f5⟩
 self:=fun A i s Q E st h=>let ⟨⟨_,he⟩,_⟩:=st;wpAny_pyIter_enum he h
def iEnum1(K:PySem.W.Frag)(ta:TA):TI:=fun σ H R=>ta σ H fun vs H1=> ∃a xs,vs=[.ref a]∧SqL K H1 a xs∧R (Ite1 K a) H1
theorem keep_enum{M:Model}(h:Heap)(_:True): ∃k,(k=Keeper.frame∨k=Keeper.machine∨k=Keeper.boundFrame)∧PySem.W.Looks M h (keeperOf (.type "enumerate")) k:=⟨Keeper.machine,.inr (.inl rfl),PySem.W.Looks.of_pure rfl⟩
theorem pi_enum1{X:Cx}{e:Expr}{ta:TA}{p pos tpos kp cp:Pos}{elts:List Expr}{kk cj:Nat}(hg:Gl X "enumerate")(hm:X.mg "enumerate"=none)(ha:PA X [e] ta)(hs:starEach [e] X.env=[(false,eval e X.env)]:=by rfl)
  (h1:((backTo pos (starEach [e] X.env)).any (·.1) || (backToKw pos (keywordEach [⟨some "start",.Constant (.int 1) cj cp,kp⟩] X.env)).any (·.1.isNone))=false:=by rfl)(h2:(backToKw pos (keywordEach [⟨some "start",.Constant (.int 1) cj cp,kp⟩] X.env)).all (·.1.isSome)=true:=by rfl):
  PI X (.Tuple elts kk tpos) (.Call (.Name "enumerate" p) [e] [⟨some "start",.Constant (.int 1) cj cp,kp⟩] pos) (iEnum1 X.K ta):=by
 intro pins s σ H R I h
 refine wpAny_Call_Name_kw (ld_blt I hg hm boot_enumerate (PySem.W.callWith_of (P:=fun _=>True) h1 keep_enum (PyProof.Rows.evalArgs_kw2 h2 (thn (ha pos pins s σ H _ I h) fun us s0 ⟨vs,H1,I0,r1,q1⟩=>?_) hs)))
 refine thn ((pk_cons pe_int pk_nil) pos pins s0 σ H1 (fun zs H2=>zs=[.int 1]∧H2=H1) I0 ⟨rfl,rfl⟩) fun kvs s1 ⟨zs,H2,I1,r2,ez,eH⟩=>⟨trivial,?_⟩
 subst ez
 subst eH
 obtain⟨kv,rfl,tk,rfl⟩:=vals1 r2
 obtain⟨a,xs,ex,hq,q⟩:=q1
 subst ex
 obtain⟨u,rfl,ru⟩:=vals1 r1
 obtain rfl:u=Value.ref a:=ru
 obtain⟨its,rv,p',hz⟩:=I1.list hq
 refine call_enumS p'.isList fun h' he hit hsz hk=>wpAny_pyIter_enum he ?_
 have I2:Inv X pins σ H2 {s1 with heap:=h'}:=I1.kept (t':=s1.toks) hk
 refine⟨s1.heap.objs.size+1,[s1.heap.objs.size+1,s1.heap.objs.size],_,_,H2,rfl,I2,turn_enum1 a (s1.heap.objs.size+1) s1.heap.objs.size,⟨⟨.none,he⟩,hit,Nat.succ_ne_self _⟩,fun b hb=>?_,q⟩
 have e':b=s1.heap.objs.size+1∨b=s1.heap.objs.size:=by simpa using hb
 have hle:s1.heap.objs.size≤b:=by
  rcases e' with z | z
  ·rw[z];exact Nat.le_add_right _ _
  ·rw[z];exact Nat.le_refl _
 exact I1.fpOk hle (I1.hok.fresh hle)
theorem for_enum1{K:PySem.W.Frag}{a:Addr}{xs:List V}{g:TG}{tb:TS}{D:Ends}{σ:St}{H:Hp}(Pv:Nat→St→Hp→Prop)(h0:Pv 0 σ H)(hl: ∀i σ H,i≤xs.length→Pv i σ H→SqL K H a xs)
  (hs: ∀i x σ H T,xs[i]? =some x→Pv i σ H→H T=none→g (.ref T) σ (upd H T (.tup [.int ((i+1:Nat):Int),x])) fun σ2 H2=>tb {D with nx:=Pv (i+1),ct:=Pv (i+1),bk:=D.nx} σ2 H2)(hd: ∀σ H,Pv xs.length σ H→D.nx σ H):
  ∃W:Nat→Nat→St→Hp→Prop,(∃m,W 0 m σ H)∧ ∀i m σ H,W i m σ H→
   ((Ite1 K a).stop i H∧D.nx σ H)∨((Ite1 K a).go i H∧ ∃N:St→Hp→Prop,(∀σ' H',N σ' H'→ ∃m',m'<m∧W (i+1) m' σ' H')∧ ∀x H',(Ite1 K a).yld i H x H'→g x σ H' fun σ2 H2=>tb {D with nx:=N,ct:=N,bk:=D.nx} σ2 H2):=by
 refine⟨fun i m σ H=>m+i=xs.length∧Pv i σ H,⟨xs.length,rfl,h0⟩,fun i m σ H hw=>?_⟩
 obtain⟨em,p⟩:=hw
 have q:=hl i σ H (by omega) p
 by_cases hlt:i<xs.length
 ·have hx:xs[i]? =some xs[i]:=List.getElem?_eq_getElem hlt
  refine .inr ⟨⟨xs,xs[i],q,hx⟩,Pv (i+1),fun σ' H' p'=>⟨m-1,by omega,by omega,p'⟩,fun x H' y=>?_⟩
  obtain⟨T,z,rfl,hT,rfl,hz⟩:=y
  exact hs i z σ H T (hz xs q) p hT
 ·obtain rfl:i=xs.length:=by omega
  exact .inl ⟨⟨xs,q,rfl⟩,hd σ H p⟩
abbrev KRow:=Int×Tok×Value
def kEntry(r:KRow):DictEntry:=⟨r.1,.int r.1 r.2.1,r.2.2⟩
def kPair(r:KRow):Key×Value:=(.inl r.1,r.2.2)
structure KDct(K:PySem.W.Frag)(d:Addr)(rows:List KRow):Prop where
 at_: ∃ep,K.lookup d=some {cls:= .type "dict",data:= .dict (rows.map kEntry).toArray ep}
 nd:(rows.map fun r=>r.1).Nodup
 ne:(d==sysModules)=false
 small: ∀r∈rows,hashInt r.1=r.1
theorem kPairs{P:Program}{w:World}: ∀rows:List KRow,Pairs (mixKind P w) (rows.map kEntry) (rows.map kPair)
 | []=> .nil
 | r::rows=> .cons (mixKind_int P w _ _) rfl (kPairs rows)
theorem KDct.of{K:PySem.W.Frag}{d:Addr}{rows:List KRow}{P:Program}{w:World}{h:Heap}(X:K.In h)(k:KDct K d rows):h.DictOf (mixKind P w) d (rows.map kPair):=by
 obtain⟨ep,e⟩:=k.at_
 refine⟨_,_,ep,X _ _ e,⟨rfl,rfl,rfl⟩,rfl,?_,?_,?_⟩
 ·intro x hx
  have hx':x∈rows.map kEntry:=by simpa using hx
  obtain⟨r,hr,rfl⟩:=List.mem_map.mp hx'
  exact⟨.inl r.1,mixKind_int P w _ _,(k.small r hr).symm⟩
 ·rw[List.toList_toArray]
  exact kPairs rows
 ·rw[List.map_map]
  have e2:(Prod.fst∘kPair:KRow→Key)=Sum.inl∘fun r=>r.1:=rfl
  rw[e2,←List.map_map]
  exact List.pairwise_map.mpr (List.Pairwise.imp (fun h e=>h (Sum.inl.inj e)) k.nd)
def tDGetK(kvs:List (Key×V))(ty:TE):TE:=fun σ H Q=>ty σ H fun y H2=> ∃k v,y=kV k∧valV kvs k=some v∧Q v H2
def tDGetK2(kvs:List (Key×V))(ty tx:TE):TE:=fun σ H Q=>ty σ H fun y H2=>tx σ H2 fun z H3=> ∃k,y=kV k∧Q ((valV kvs k).getD z) H3
section
variable {X:Cx}{o i e f:Expr}{pos apos cpos:Pos}{ty tx:TE}{d:Addr}{rows:List KRow}{kvs:List (Key×V)}
theorem pe_dgetK(hd:KDct X.K d rows)(rel:KV kvs (rows.map kPair))(ho:PE X o (tC (.ref d)))(hi:PE X i ty)(hs:NoSl i):PE X (.Subscript o i pos) (tDGetK kvs ty):=by
 intro pins s σ H Q I h
 refine subD_of PySem.F.slot_dict_getitem.lookup hs (thn (ho pins s σ H (fun x H1=>x= .ref d∧H1=H) I ⟨rfl,rfl⟩) fun u s1 ⟨x,H1,I1,rx,ex,eH⟩=>?_)
 subst ex
 subst eH
 obtain rfl:u=Value.ref d:=rx
 refine thn (hi pins s1 σ H1 _ I1 h) fun iv s2 ⟨y,H2,I2,ry,k,v,ey,hv,q2⟩=>?_
 subst ey
 have dd:=hd.of (P:=X.prog) (w:=X.w) I2.kIn
 obtain⟨w',hw,rw'⟩:=RelO.some_of (v:=v) (o:=valueAt (rows.map kPair) k) (by rw[←hv];exact rel.val k)
 exact⟨dd.typeIs,wpAny_getItem_of (kV_is ry) dd.mapOf hw ⟨v,H2,I2.tok _,rw',q2⟩⟩
theorem pe_dgetK2(hd:KDct X.K d rows)(rel:KV kvs (rows.map kPair))(ho:PE X o (tC (.ref d)))(he:PE X e ty)(hf:PE X f tx)(m:M2 X o "get" apos e f cpos):PE X (.Call (.Attribute o "get" apos) [e,f] [] cpos) (tDGetK2 kvs ty tx):=by
 intro pins s σ H Q I h
 refine wpAny_Call_method m.base m.few m.line PySem.F.plainAttrs_dict PySem.F.slot_dict_get PySem.F.type_dict_get (thn (ho pins s σ H (fun x H1=>x= .ref d∧H1=H) I ⟨rfl,rfl⟩) fun u s1 ⟨x,H1,I1,rx,ex,eH⟩=>?_)
 subst ex
 subst eH
 obtain rfl:u=Value.ref d:=rx
 have d1:=hd.of (P:=X.prog) (w:=X.w) I1.kIn
 refine⟨d1.typeIs,fun b q=>?_,?_⟩
 ·cases q
  obtain⟨ob,_,_,h1,h2,_⟩:=d1
  exact⟨ob,h1,h2.2.1⟩
 rw[m.trees]
 refine Calls.callWith_builtin rfl (Calls.evalArgs_plain (Calls.spliced_cons (thn (he pins s1 σ H1 _ I1 h) fun iv s2 ⟨y,H2,I2,ry,q2⟩=>
  Calls.spliced_cons (thn (hf pins s2 σ H2 _ I2 q2) fun fv s3 ⟨z,H3,I3,rz,k,ey,q3⟩=>Calls.spliced_nil ?_))))
 subst ey
 have dd:=hd.of (P:=X.prog) (w:=X.w) I3.kIn
 refine call_meetsIn PySem.F.slot_dict_get dd.typeIs PySem.F.entry_dict_get (PySem.F.args_dict_get_3 _ _ _) (meets_dict_get_default (mixKind X.prog X.w) d (kV_is ry) hd.ne fv) ⟨_,dd.mapOf,⟨_,H3,I3.tok _,?_,q3⟩⟩
 exact(rel.val k).getD rz
end
section
variable {prog:Program}{w:World}{A:Around}{E:Value→Shared→Prop}{s:Shared}
theorem nextOf_tup{it t:Addr}{i:Nat}{items:Array Value}{x:Value}{Q:Value→Shared→Prop}(hit:s.heap.IsTupleIter it t i)(ht:s.heap.IsTuple t items)(hx:items[i]? =some x)
  (hQ: ∀h',h'.IsTupleIter it t (i+1)→Heap.SameBut it s.heap h'→Q x {s with heap:=h'}):wpAny (model prog w) A (Builtin.SmallTypes.nextOf (.ref it)) Q E s:=by
 obtain⟨o,ho,hc,hd⟩:=id hit
 obtain⟨ot,hot,_,nt,hdt⟩:=ht
 have hb: ¬((Value.ref t==Value.none)=true):=Bool.false_ne_true
 unfold Builtin.SmallTypes.nextOf
 refine wpAny_bind (wpAny_callSpecial?_slot (name:=Str.ofString "__next__") hit.typeIs F.slot_tuple_iterator_next (wpAny_call_entry F.slot_tuple_iterator_next hit.typeIs F.entry_tuple_iterator_next ?_ (F.args_tuple_iterator_next_1 _)))
 show wpAny (model prog w) _ (field (.ref it) 0>>=_) _ _ s
 refine wpAny_bind (wpAny_field ho hd (x:= .ref t) rfl (show wpAny (model prog w) _ (if (Value.ref t==Value.none)=true then _ else _) _ _ s from ?_))
 rw[if_neg hb]
 show wpAny (model prog w) _ (field (.ref it) 1>>=_) _ _ s
 refine wpAny_bind (wpAny_field ho hd (x:= .int i 0) rfl (show wpAny (model prog w) _ (seqItems? (.ref t)>>=_) _ _ s from wpAny_bind (wpAny_seqItems hot hdt ?_)))
 simp only[Int.toNat_natCast,hx]
 refine wpAny_bind (wpAny_setField ho hd (by simp) (wpAny_pure ⟨x,rfl,wpAny_pure (hQ _ ⟨_,Heap.get?_update_self _ ho (Obj.isFreed_of_fields (Obj.data_mapFields hd _)),(Obj.cls_mapFields ..).trans hc,?_⟩ (Heap.SameBut.update ..))⟩))
 rw[Obj.data_mapFields hd]
 simp[rawInt]
theorem zipT_item{z TI TO i1 i2 l1 l2:Addr}{k1 k2:Nat}{xs ys:Array Value}{x y a b:Value}{Q:Value→Shared→Prop}(D:ZipApart z TI TO i1 i2 l1 l2)
  (hz:IsZip s.heap z TI TO .none)(hTI:IsPair s.heap TI (.ref i1) (.ref i2))(hTO:IsPair s.heap TO a b)(h1:s.heap.IsListIter i1 l1 k1)(h2:s.heap.IsTupleIter i2 l2 k2)(hl1:s.heap.IsList l1 xs)(hl2:s.heap.IsTuple l2 ys)(hx:xs[k1]? =some x)(hy:ys[k2]? =some y)
  (hQ: ∀h',IsZip h' z TI TO (rawInt s.heap.objs.size)→IsPair h' TO x y→h'.IsListIter i1 l1 (k1+1)→h'.IsTupleIter i2 l2 (k2+1)→IsPair h' s.heap.objs.size x y→h'.objs.size=s.heap.objs.size+1→
   (∀c o,c≠z→c≠TO→c≠i1→c≠i2→s.heap.get? c=some o→h'.get? c=some o)→Q (.ref s.heap.objs.size) {s with heap:=h'}):
  wpAny (model prog w) A (Builtin.«zip.__next__» ⟨[.ref z],[]⟩) (fun fin s'=> ∃v,fin= .done (.ret v)∧Q v s') E s:=by
 show wpAny (model prog w) _ (field (.ref z) 2>>=_) _ _ _
 refine wpAny_bind (wpAny_field hz rfl (x:= .bool false) rfl (show wpAny (model prog w) _ (field (.ref z) 3>>=_) _ _ _ from wpAny_bind (wpAny_field hz rfl (x:= .ref TI) rfl (wpAny_bind (wpAny_seqItems hTI rfl ?_)))))
 show wpAny (model prog w) _ (Builtin.SmallTypes.ownedTupleIsFree (.ref z)>>=_) _ _ _
 refine wpAny_bind ?_
 unfold Builtin.SmallTypes.ownedTupleIsFree
 refine wpAny_bind (wpAny_field hz rfl (x:=Value.none) rfl (wpAny_pure ?_))
 simp only[if_true]
 refine wpAny_bind (wpAny_rule (wpAny_bind (wpAny_field hz rfl (x:= .ref TO) rfl (wpAny_bind (wpAny_setField_rec hz (by simp) fun g1 hz1 t1=>?_)))))
 replace hz1:IsZip g1 z TI TO .ellipsis :=hz1
 refine wpAny_bind ?_
 simp only[List.zipIdx_cons,List.zipIdx_nil,List.forIn_cons,List.forIn_nil]
 refine wpAny_bind (wpAny_bind (wpAny_onRaise (show wpAny (model prog w) _ (Builtin.SmallTypes.nextOf (.ref i1)>>=_) _ _ _ from ?_)))
 refine wpAny_bind (wpAny_nextOf_list_item (h1.extBut t1.extBut D.i1z) (hl1.extBut t1.extBut D.l1z) hx fun g2 h12 t2=>wpAny_pure ?_)
 have hTO2:IsPair g2 TO a b:=t2.extBut _ _ D.TOi1 (t1.extBut _ _ D.TOz hTO)
 refine wpAny_bind (wpAny_seqItems hTO2 rfl (wpAny_bind (wpAny_updateSeq_pair hTO2 fun g3 hTO3 t3=>?_)))
 replace hTO3:IsPair g3 TO x b:=hTO3
 refine wpAny_bind (wpAny_letGo (wpAny_pure (wpAny_bind (wpAny_bind (wpAny_onRaise (show wpAny (model prog w) _ (Builtin.SmallTypes.nextOf (.ref i2)>>=_) _ _ _ from ?_))))))
 refine wpAny_bind (nextOf_tup (((h2.extBut t1.extBut D.i2z).extBut t2.extBut D.i12.symm).extBut t3.extBut D.TOi2.symm) (((hl2.extBut t1.extBut D.l2z).extBut t2.extBut D.l2i1).extBut t3.extBut D.l2TO) hy fun g4 h24 t4=>wpAny_pure ?_)
 have hTO4:IsPair g4 TO x b:=t4.extBut _ _ D.TOi2 hTO3
 refine wpAny_bind (wpAny_seqItems hTO4 rfl (wpAny_bind (wpAny_updateSeq_pair hTO4 fun g5 hTO5 t5=>?_)))
 replace hTO5:IsPair g5 TO x y:=hTO5
 refine wpAny_bind (wpAny_letGo (wpAny_pure (wpAny_pure (wpAny_bind (wpAny_seqItems hTO5 rfl (wpAny_bind (wpAny_newTuple ?_)))))))
 have hsz:g5.objs.size=s.heap.objs.size:=by rw[t5.1,t4.1,t3.1,t2.1,t1.1]
 have hz5:IsZip g5 z TI TO .ellipsis :=t5.extBut _ _ D.TOz.symm (t4.extBut _ _ D.i2z.symm (t3.extBut _ _ D.TOz.symm (t2.extBut _ _ D.i1z.symm hz1)))
 have hk5: ∀c o,c≠z→c≠TO→c≠i1→c≠i2→s.heap.get? c=some o→g5.get? c=some o:=fun c o c1 c2 c3 c4 e=>t5.extBut _ _ c2 (t4.extBut _ _ c4 (t3.extBut _ _ c2 (t2.extBut _ _ c3 (t1.extBut _ _ c1 e))))
 have h15:g5.IsListIter i1 l1 (k1+1):=((h12.extBut t3.extBut D.TOi1.symm).extBut t4.extBut D.i12).extBut t5.extBut D.TOi1.symm
 have h25:g5.IsTupleIter i2 l2 (k2+1):=h24.extBut t5.extBut D.TOi2.symm
 have hzlt:z<g5.objs.size:=Heap.lt_size hz5
 show wpAny (model prog w) _ (Builtin.SmallTypes.ownedTupleHandOut (.ref z) (.ref g5.objs.size)>>=_) _ _ _
 refine wpAny_bind ?_
 unfold Builtin.SmallTypes.ownedTupleHandOut
 have hz6:IsZip (g5.push {cls:= .type "tuple",data:= .seq #[x,y]}) z TI TO .ellipsis :=Heap.get?_push_of_some _ hz5
 refine wpAny_bind (wpAny_setField_rec hz6 (by simp) fun g7 hz7 t7=>?_)
 replace hz7:IsZip g7 z TI TO (rawInt g5.objs.size):=hz7
 refine wpAny_setField_rec hz7 (by simp) fun g8 hz8 t8=>?_
 replace hz8:IsZip g8 z TI TO (rawInt g5.objs.size):=hz8
 have up: ∀c o,c≠z→g5.get? c=some o→g8.get? c=some o:=fun c o c1 e=>t8.extBut _ _ c1 (t7.extBut _ _ c1 (Heap.get?_push_of_some _ e))
 have hT8:IsPair g8 g5.objs.size x y:=t8.extBut _ _ (Nat.ne_of_gt hzlt) (t7.extBut _ _ (Nat.ne_of_gt hzlt) (Heap.get?_push_size _ rfl))
 have hs8:g8.objs.size=g5.objs.size+1:=by rw[t8.1,t7.1,Heap.size_push]
 rw[hsz]at hz8 hT8 hs8
 refine wpAny_pure ⟨_,rfl,show Q (.ref g5.objs.size) _ from ?_⟩
 rw[hsz]
 exact hQ g8 hz8 (up _ _ D.TOz hTO5) (h15.at fun o e=>up _ o D.i1z e) (h25.at fun o e=>up _ o D.i2z e) hT8 hs8 fun c o c1 c2 c3 c4 e=>up c o c1 (hk5 c o c1 c2 c3 c4 e)
theorem zipT_end{z TI TO i1 i2 l1 l2:Addr}{k1:Nat}{xs:Array Value}{a b:Value}{Q:Fin→Shared→Prop}(hh:A.handled=none)(D:ZipApart z TI TO i1 i2 l1 l2)
  (hz:IsZip s.heap z TI TO .none)(hTI:IsPair s.heap TI (.ref i1) (.ref i2))(hTO:IsPair s.heap TO a b)(h1:s.heap.IsListIter i1 l1 k1)(hl1:s.heap.IsList l1 xs)(hx:xs[k1]? =none)
  (hE: ∀h' e,(∀c o,c≠z→c≠TO→c≠i1→c≠i2→s.heap.get? c=some o→h'.get? c=some o)→(∃o,h'.get? e=some o∧o.cls= .type "StopIteration")→E (.ref e) {s with heap:=h'}):
  wpAny (model prog w) A (Builtin.«zip.__next__» ⟨[.ref z],[]⟩) Q E s:=by
 show wpAny (model prog w) _ (field (.ref z) 2>>=_) _ _ _
 refine wpAny_bind (wpAny_field hz rfl (x:= .bool false) rfl (show wpAny (model prog w) _ (field (.ref z) 3>>=_) _ _ _ from wpAny_bind (wpAny_field hz rfl (x:= .ref TI) rfl (wpAny_bind (wpAny_seqItems hTI rfl ?_)))))
 show wpAny (model prog w) _ (Builtin.SmallTypes.ownedTupleIsFree (.ref z)>>=_) _ _ _
 refine wpAny_bind ?_
 unfold Builtin.SmallTypes.ownedTupleIsFree
 refine wpAny_bind (wpAny_field hz rfl (x:=Value.none) rfl (wpAny_pure ?_))
 simp only[if_true]
 refine wpAny_bind (wpAny_rule (wpAny_bind (wpAny_field hz rfl (x:= .ref TO) rfl (wpAny_bind (wpAny_setField_rec hz (by simp) fun g1 hz1 t1=>?_)))))
 replace hz1:IsZip g1 z TI TO .ellipsis :=hz1
 refine wpAny_bind ?_
 simp only[List.zipIdx_cons,List.zipIdx_nil,List.forIn_cons,List.forIn_nil]
 refine wpAny_bind (wpAny_bind (wpAny_onRaise (show wpAny (model prog w) _ (Builtin.SmallTypes.nextOf (.ref i1)>>=_) _ _ _ from ?_)))
 refine wpAny_bind (wpAny_nextOf_list_end hh (h1.extBut t1.extBut D.i1z) (hl1.extBut t1.extBut D.l1z) hx fun g2 e t2 he=>?_)
 obtain⟨oe,hoe,hce⟩:=he
 have hz2:IsZip g2 z TI TO .ellipsis :=t2 _ _ D.i1z.symm hz1
 have hez:e≠z:=fun q=>by
  subst q
  rw[hz2]at hoe
  cases hoe
  simp at hce
 exact wpAny_setField_rec hz2 (by simp) fun g3 _ t3=>hE g3 e (fun c o c1 _ c3 _ q=>t3.extBut _ _ c1 (t2 _ _ c3 (t1.extBut _ _ c1 q))) ⟨oe,t3.extBut _ _ hez hoe,hce⟩
theorem pyNext_zipT{z TI TO i1 i2 l1 l2:Addr}{k1 k2:Nat}{xs ys:Array Value}{x y a b:Value}{Q:Option Value→Shared→Prop}(D:ZipApart z TI TO i1 i2 l1 l2)
  (hz:IsZip s.heap z TI TO .none)(hTI:IsPair s.heap TI (.ref i1) (.ref i2))(hTO:IsPair s.heap TO a b)(h1:s.heap.IsListIter i1 l1 k1)(h2:s.heap.IsTupleIter i2 l2 k2)(hl1:s.heap.IsList l1 xs)(hl2:s.heap.IsTuple l2 ys)(hx:xs[k1]? =some x)(hy:ys[k2]? =some y)
  (hQ: ∀h',IsZip h' z TI TO (rawInt s.heap.objs.size)→IsPair h' TO x y→h'.IsListIter i1 l1 (k1+1)→h'.IsTupleIter i2 l2 (k2+1)→IsPair h' s.heap.objs.size x y→h'.objs.size=s.heap.objs.size+1→
   (∀c o,c≠z→c≠TO→c≠i1→c≠i2→s.heap.get? c=some o→h'.get? c=some o)→Q (some (.ref s.heap.objs.size)) {s with heap:=h'}):wpAny (model prog w) A (pyNext (.ref z)) Q E s:=by
 have hT:s.TypeIs (.ref z) "zip":=⟨_,hz,rfl⟩
 unfold pyNext
 exact wpAny_bind (wpAny_attempt (wpAny_callSpecial?_slot (name:=Str.ofString "__next__") hT F.slot_zip_next (wpAny_call_entry F.slot_zip_next hT F.entry_zip_next
  (zipT_item D hz hTI hTO h1 h2 hl1 hl2 hx hy fun h' q1 q2 q3 q4 q5 q6 q7=>wpAny_pure (hQ h' q1 q2 q3 q4 q5 q6 q7)) (F.args_zip_next_1 _))))
theorem pyNext_zipT_end{z TI TO i1 i2 l1 l2:Addr}{k1:Nat}{xs:Array Value}{a b:Value}{Q:Option Value→Shared→Prop}(hh:A.handled=none)(D:ZipApart z TI TO i1 i2 l1 l2)
  (hz:IsZip s.heap z TI TO .none)(hTI:IsPair s.heap TI (.ref i1) (.ref i2))(hTO:IsPair s.heap TO a b)(h1:s.heap.IsListIter i1 l1 k1)(hl1:s.heap.IsList l1 xs)(hx:xs[k1]? =none)
  (hQ: ∀h',(∀c o,c≠z→c≠TO→c≠i1→c≠i2→s.heap.get? c=some o→h'.get? c=some o)→Q none {s with heap:=h'}):wpAny (model prog w) A (pyNext (.ref z)) Q E s:=by
 have hT:s.TypeIs (.ref z) "zip":=⟨_,hz,rfl⟩
 unfold pyNext
 refine wpAny_bind (wpAny_attempt (wpAny_callSpecial?_slot (name:=Str.ofString "__next__") hT F.slot_zip_next (wpAny_call_entry F.slot_zip_next hT F.entry_zip_next (zipT_end hh D hz hTI hTO h1 hl1 hx fun h' e hk he=>?_) (F.args_zip_next_1 _))))
 obtain⟨o,ho,hc⟩:=he
 exact wpAny_bind (wpAny_isInstance (T:="StopIteration") (b:=true) ⟨o,ho,hc⟩ isSubtype_stop (wpAny_pure (hQ _ hk)))
abbrev zT1(h:Heap)(l1:Addr):Heap:=h.push {cls:= .type "list_iterator",data:= .fields #[.ref l1,.int 0 0]}
abbrev zT2(h:Heap)(l1 l2:Addr):Heap:=(zT1 h l1).push {cls:= .type "tuple_iterator",data:= .fields #[.ref l2,.int 0 0]}
abbrev zT3(h:Heap)(l1 l2:Addr):Heap:=(zT2 h l1 l2).push {cls:= .type "tuple",data:= .seq #[.ref h.objs.size,.ref (zT1 h l1).objs.size]}
abbrev zT4(h:Heap)(l1 l2:Addr):Heap:=(zT3 h l1 l2).push {cls:= .type "tuple",data:= .seq #[.none,.none]}
abbrev zT5(h:Heap)(l1 l2:Addr):Heap:=(zT4 h l1 l2).push {cls:= .type "zip",data:= .fields #[.none,.bool false,.bool false,.ref (zT2 h l1 l2).objs.size,.ref (zT3 h l1 l2).objs.size]}
theorem zipT_new(l1 l2:Addr)(xs ys:Array Value):
  Meets (Builtin.«zip.__new__» ⟨[.type "zip",.ref l1,.ref l2],[]⟩) (fun _ R s=>s.heap.IsList l1 xs∧s.heap.IsTuple l2 ys∧R (.ok (.ret (.ref (zT4 s.heap l1 l2).objs.size))) {s with heap:=zT5 s.heap l1 l2}):=
 .of_wp fun prog w A R s h=>by
  obtain⟨hp,g,d,tk,os⟩:=s
  obtain⟨a1,a2,h⟩:=h
  have hsub:=sub_zip
  have b1:Heap.IsList (Shared.heap ⟨hp,g,d,tk,os⟩) l1 xs:=a1
  have b2:Heap.IsTuple (Shared.heap ⟨hp.push {cls:= .type "list_iterator",data:= .fields #[.ref l1,.int 0 0]},g,d,tk,os⟩) l2 ys:=Heap.IsTuple.push a2 _
  wp_walk using wpAny_pyIter_list b1,wpAny_pyIter_tuple b2
  exact⟨_,rfl,h⟩
theorem call_zipT{l1 l2:Addr}{xs ys:Array Value}{Q:Value→Shared→Prop}(hl1:s.heap.IsList l1 xs)(hl2:s.heap.IsTuple l2 ys)
  (h: ∀h',IsZip h' (s.heap.objs.size+4) (s.heap.objs.size+2) (s.heap.objs.size+3) .none →IsPair h' (s.heap.objs.size+2) (.ref s.heap.objs.size) (.ref (s.heap.objs.size+1))→IsPair h' (s.heap.objs.size+3) .none .none →
   h'.IsListIter s.heap.objs.size l1 0→h'.IsTupleIter (s.heap.objs.size+1) l2 0→(∀c o,s.heap.get? c=some o→h'.get? c=some o)→Q (.ref (s.heap.objs.size+4)) {s with heap:=h'}):
  wpAny (model prog w) A (call (.type "zip") [.ref l1,.ref l2]) Q E s:=by
 refine callType_new F.called_zip (by decide) (F.typeCall_zip_2 _ _) (F.newCall_zip_2 _ _) (fun obj=>F.args_object_init_3 obj _ _) F.entry_zip_new (zipT_new l1 l2 xs ys) ⟨hl1,hl2,show _∧_ from ?_⟩
 have y1:(zT1 s.heap l1).objs.size =s.heap.objs.size+1:=Heap.size_push ..
 have y2:(zT2 s.heap l1 l2).objs.size =s.heap.objs.size+2:=(Heap.size_push ..).trans (congrArg (· +1) y1)
 have y3:(zT3 s.heap l1 l2).objs.size =s.heap.objs.size+3:=(Heap.size_push ..).trans (congrArg (· +1) y2)
 have y4:(zT4 s.heap l1 l2).objs.size =s.heap.objs.size+4:=(Heap.size_push ..).trans (congrArg (· +1) y3)
 have u5:(zT5 s.heap l1 l2).get? (zT4 s.heap l1 l2).objs.size =some _:=Heap.get?_push_size _ rfl
 have u4:(zT5 s.heap l1 l2).get? (zT3 s.heap l1 l2).objs.size =some _:=Heap.get?_push_of_some _ (Heap.get?_push_size _ rfl)
 have u3:(zT5 s.heap l1 l2).get? (zT2 s.heap l1 l2).objs.size =some _:=Heap.get?_push_of_some _ (Heap.get?_push_of_some _ (Heap.get?_push_size _ rfl))
 have u2:(zT5 s.heap l1 l2).get? (zT1 s.heap l1).objs.size =some _:=Heap.get?_push_of_some _ (Heap.get?_push_of_some _ (Heap.get?_push_of_some _ (Heap.get?_push_size _ rfl)))
 have u1:(zT5 s.heap l1 l2).get? s.heap.objs.size=some _:=Heap.get?_push_of_some _ (Heap.get?_push_of_some _ (Heap.get?_push_of_some _ (Heap.get?_push_of_some _ (Heap.get?_push_size _ rfl))))
 rw[y2,y3,y4]at u5
 rw[y1,y2]at u3
 rw[y3]at u4
 rw[y1]at u2
 rw[y4]
 exact⟨⟨_,u5,rfl⟩,h _ u5 u3 u4 ⟨_,u1,rfl,rfl⟩ ⟨_,u2,rfl,rfl⟩ fun c o q=>Heap.get?_push_of_some _ (Heap.get?_push_of_some _ (Heap.get?_push_of_some _ (Heap.get?_push_of_some _ (Heap.get?_push_of_some _ q))))⟩
end
def ItzT(K:PySem.W.Frag)(a b:Addr):It:=
 ⟨fun i H=> ∃(xs ys:List V) (x y:V),SqL K H a xs∧SqT K H b ys∧xs[i]? =some x∧ys[i]? =some y,
  fun i H v H'=> ∃T x y,v= .ref T∧H T=none∧H'=upd H T (.tup [x,y])∧(∀xs,SqL K H a xs→xs[i]? =some x)∧ ∀ys,SqT K H b ys→ys[i]? =some y,
  fun i H=> ∃xs:List V,SqL K H a xs∧xs.length≤i⟩
theorem turn_zipT{P:Program}{w:World}{K:PySem.W.Frag}{elts:List Expr}{kk:Nat}{tpos:Pos}{a b z TI TO i1 i2:Addr}(D:ZipApart z TI TO i1 i2 a b):
  Turn P w K (.Tuple elts kk tpos) (ItzT K a b) [z,TI,TO,i1,i2] z (fun i h=>IsZip h z TI TO .none ∧IsPair h TI (.ref i1) (.ref i2)∧(∃x y,IsPair h TO x y)∧h.IsListIter i1 a i∧h.IsTupleIter i2 b i) where
 mem:=by simp
 obj:=fun i h st c hc=>by
  obtain⟨hz,hTI,⟨x,y,hTO⟩,⟨o1,e1,_,d1⟩,⟨o2,e2,_,d2⟩⟩:=st
  have e':c=z∨c=TI∨c=TO∨c=i1∨c=i2:=by simpa using hc
  rcases e' with q | q | q | q | q
  ·rw[q];exact⟨_,hz,fun v q=>nomatch q⟩
  ·rw[q];exact⟨_,hTI,fun v q=>nomatch q⟩
  ·rw[q];exact⟨_,hTO,fun v q=>nomatch q⟩
  ·rw[q];exact⟨o1,e1,fun v q=>by rw[d1]at q;cases q⟩
  ·rw[q];exact⟨o2,e2,fun v q=>by rw[d2]at q;cases q⟩
 keep:=fun i h h' st k=>by
  obtain⟨hz,hTI,⟨x,y,hTO⟩,h1,h2⟩:=st
  exact⟨k z (by simp) _ hz,k TI (by simp) _ hTI,⟨x,y,k TO (by simp) _ hTO⟩,h1.at fun o q=>k i1 (by simp) o q,h2.at fun o q=>k i2 (by simp) o q⟩
 item:=by
  intro X hP hw hK hc i pins s σ H E I hf st hg
  subst hP hw hK
  obtain⟨hz,hTI,⟨x0,y0,hTO⟩,h1,h2⟩:=st
  obtain⟨xs,ys,x,y,hqx,hqy,hx,hy⟩:=hg
  obtain⟨its,rv,p,_⟩:=I.list hqx
  obtain⟨its2,rv2,p2,_⟩:=I.tuple hqy
  obtain⟨u,hu,ru⟩:=rv.get hx
  obtain⟨u2,hu2,ru2⟩:=rv2.get hy
  have hzl:z<s.heap.objs.size:=Heap.lt_size hz
  refine pyNext_zipT D hz hTI hTO h1 h2 p.isList p2 (x:=u) (y:=u2) (by simpa using hu) (by simpa using hu2) fun h' z' TO' h1' h2' hT hsz hk=>?_
  refine⟨_,rfl,wpAny_letOwnedTupleGo_zip (s:={s with heap:=h'}) z' fun h'' z'' sb=>?_⟩
  have hT2:h''.get? s.heap.objs.size=some {cls:= .type "tuple",data:= .seq #[u,u2]}:=(sb.2 _ (Nat.ne_of_gt hzl)).trans hT
  have new:ObjOk X.prog X.w (upd H s.heap.objs.size (.tup [x,y])) h'' s.heap.objs.size (.tup [x,y]):=
   ⟨by show 2≤sizeLine;decide,[u,u2],.cons ru (.cons ru2 .nil),⟨_,hT2,rfl,_,rfl⟩⟩
  have I1:Inv X pins σ (upd H s.heap.objs.size (.tup [x,y])) {s with heap:=h''}:=
   I.turnedNew (t':=s.toks) (ch:=[z,TI,TO,i1,i2]) (fun c o hb q=>(sb.2 c (fun q'=>hb (by simp[q']))).trans (hk c o (fun q'=>hb (by simp[q'])) (fun q'=>hb (by simp[q'])) (fun q'=>hb (by simp[q'])) (fun q'=>hb (by simp[q'])) q)) hf (Nat.le_refl _) new
  refine⟨.ref s.heap.objs.size,_,I1,rfl,⟨_,x,y,rfl,I.hok.fresh (Nat.le_refl _),rfl,fun l hl=>by rw[I.list_inj hl hqx];exact hx,fun l hl=>by rw[I.tuple_inj hl hqy];exact hy⟩,⟨z'',?_,⟨u,u2,?_⟩,?_,?_⟩,fun c hcm=>?_⟩
  ·exact(sb.2 _ D.TIz).trans (hk _ _ D.TIz D.TITO D.TIi1 D.TIi2 hTI)
  ·exact(sb.2 _ D.TOz).trans TO'
  ·exact h1'.at fun o q=>(sb.2 _ D.i1z).trans q
  ·exact h2'.at fun o q=>(sb.2 _ D.i2z).trans q
  ·have hlt:c<s.heap.objs.size:=by
    have e':c=z∨c=TI∨c=TO∨c=i1∨c=i2:=by simpa using hcm
    rcases e' with q | q | q | q | q
    ·rw[q];exact hzl
    ·rw[q];exact Heap.lt_size hTI
    ·rw[q];exact Heap.lt_size hTO
    ·rw[q];obtain⟨_,e1,_⟩:=h1;exact Heap.lt_size e1
    ·rw[q];obtain⟨_,e2,_⟩:=h2;exact Heap.lt_size e2
   rw[upd_ne (Nat.ne_of_lt hlt)]
   exact(hf c hcm).1
 done:=by
  intro X hP hw hK hc i pins s σ H E I hf st hg
  subst hP hw hK
  obtain⟨hz,hTI,⟨x0,y0,hTO⟩,h1,h2⟩:=st
  obtain⟨xs,hqx,hend⟩:=hg
  obtain⟨its,rv,p,_⟩:=I.list hqx
  have l1:=rv.length
  exact pyNext_zipT_end (I.ok.hd hc) D hz hTI hTO h1 p.isList (by simp;omega) fun h' hk=>⟨rfl,I.turnedL (t':=s.toks) (ch:=[z,TI,TO,i1,i2]) (fun c o hb q=>
   hk c o (fun q'=>hb (by simp[q'])) (fun q'=>hb (by simp[q'])) (fun q'=>hb (by simp[q'])) (fun q'=>hb (by simp[q'])) q) hf⟩
 self:=fun A i s Q E st h=>wpAny_pyIter_zip st.1 h
def iZipT(K:PySem.W.Frag)(ta:TA):TI:=fun σ H R=>ta σ H fun vs H1=> ∃a b xs ys,vs=[.ref a,.ref b]∧SqL K H1 a xs∧SqT K H1 b ys∧R (ItzT K a b) H1
theorem pi_zipT{X:Cx}{e e2:Expr}{ta:TA}{p pos tpos:Pos}{elts:List Expr}{kk:Nat}(hg:Gl X "zip")(hm:X.mg "zip"=none)(ha:PA X [e,e2] ta)
  (hs:starEach [e,e2] X.env=(false,eval e X.env)::starEach [e2] X.env:=by rfl)(hpl:(backTo pos (starEach [e2] X.env)).any (·.1)=false:=by rfl):
  PI X (.Tuple elts kk tpos) (.Call (.Name "zip" p) [e,e2] [] pos) (iZipT X.K ta):=by
 intro pins s σ H R I h
 refine Call_ (ld_blt I hg hm boot_zip5 (PyProof.Rows.callWith_type1 (thn (ha pos pins s σ H _ I h) fun us s1 ⟨vs,H1,I1,r1,q1⟩=>?_) hs hpl))
 obtain⟨a,b,xs,ys,ex,hqx,hqy,q⟩:=q1
 subst ex
 obtain⟨u1,u2,rfl,ru1,ru2⟩:=vals2 r1
 obtain rfl:u1=Value.ref a:=ru1
 obtain rfl:u2=Value.ref b:=ru2
 obtain⟨its,rv,p1,_⟩:=I1.list hqx
 obtain⟨its2,rv2,p2,_⟩:=I1.tuple hqy
 have la:a<s1.heap.objs.size:=p1.lt
 have lb:b<s1.heap.objs.size:=by
  obtain⟨o,ho,_⟩:=p2
  exact Heap.lt_size ho
 refine call_zipT p1.isList p2 fun h' hz hTI hTO h1 h2 hk=>wpAny_pyIter_zip hz ?_
 have I2:Inv X pins σ H1 {s1 with heap:=h'}:=I1.kept (t':=s1.toks) hk
 refine⟨s1.heap.objs.size+4,[s1.heap.objs.size+4,s1.heap.objs.size+2,s1.heap.objs.size+3,s1.heap.objs.size,s1.heap.objs.size+1],_,_,H1,rfl,I2,turn_zipT (PySem.W.ktu_apart s1.heap.objs.size a b la lb),⟨hz,hTI,⟨_,_,hTO⟩,h1,h2⟩,fun c hcm=>?_,q⟩
 have hle:s1.heap.objs.size≤c:=by
  have e':c=s1.heap.objs.size+4∨c=s1.heap.objs.size+2∨c=s1.heap.objs.size+3∨c=s1.heap.objs.size∨c=s1.heap.objs.size+1:=by simpa using hcm
  rcases e' with z | z | z | z | z<;>rw[z]<;>first | exact Nat.le_refl _ | exact Nat.le_add_right _ _
 exact I1.fpOk hle (I1.hok.fresh hle)
theorem for_zipT{K:PySem.W.Frag}{a b:Addr}{xs ys:List V}{g:TG}{tb:TS}{D:Ends}{σ:St}{H:Hp}(Pv:Nat→St→Hp→Prop)(h0:Pv 0 σ H)(hlen:xs.length≤ys.length)(hl: ∀i σ H,i≤xs.length→Pv i σ H→SqL K H a xs∧SqT K H b ys)
  (hs: ∀i x y σ H T,xs[i]? =some x→ys[i]? =some y→Pv i σ H→H T=none→g (.ref T) σ (upd H T (.tup [x,y])) fun σ2 H2=>tb {D with nx:=Pv (i+1),ct:=Pv (i+1),bk:=D.nx} σ2 H2)(hd: ∀σ H,Pv xs.length σ H→D.nx σ H):
  ∃W:Nat→Nat→St→Hp→Prop,(∃m,W 0 m σ H)∧ ∀i m σ H,W i m σ H→
   ((ItzT K a b).stop i H∧D.nx σ H)∨((ItzT K a b).go i H∧ ∃N:St→Hp→Prop,(∀σ' H',N σ' H'→ ∃m',m'<m∧W (i+1) m' σ' H')∧ ∀x H',(ItzT K a b).yld i H x H'→g x σ H' fun σ2 H2=>tb {D with nx:=N,ct:=N,bk:=D.nx} σ2 H2):=by
 refine⟨fun i m σ H=>m+i=xs.length∧Pv i σ H,⟨xs.length,rfl,h0⟩,fun i m σ H hw=>?_⟩
 obtain⟨em,p⟩:=hw
 obtain⟨q1,q2⟩:=hl i σ H (by omega) p
 by_cases hlt:i<xs.length
 ·have hx:xs[i]? =some xs[i]:=List.getElem?_eq_getElem hlt
  have hy:ys[i]? =some (ys[i]'(by omega)):=List.getElem?_eq_getElem (by omega)
  refine .inr ⟨⟨xs,ys,xs[i],_,q1,q2,hx,hy⟩,Pv (i+1),fun σ' H' p'=>⟨m-1,by omega,by omega,p'⟩,fun x H' y=>?_⟩
  obtain⟨T,z1,z2,rfl,hT,rfl,hz1,hz2⟩:=y
  exact hs i z1 z2 σ H T (hz1 xs q1) (hz2 ys q2) p hT
 ·obtain rfl:i=xs.length:=by omega
  exact .inl ⟨⟨xs,q1,Nat.le_refl _⟩,hd σ H p⟩
end L2
namespace L2
open PySem PySem.Spec PyProof.Rows
open PySem.SeqAt
open PySem.AutoSeq1 (wpAny_loadPart')
open PySem.MeetsSeq PySem.MeetsSeq2 PySem.MeetsSeq3
theorem ints_at: ∀{vs:List Value} {ns:List Int} (i:Nat),IntsAre vs ns→(vs[i]? =none∧ns.drop i=[])∨ ∃n t,vs[i]? =some (.int n t)∧ns.drop i=n::ns.drop (i+1)
 | _,_,i,.nil => .inl ⟨by simp,by simp⟩
 | _,_,0,.cons n t _=> .inr ⟨n,t,rfl,rfl⟩
 | _,_,i+1,.cons n t h=>by
  rcases ints_at i h with ⟨h1,h2⟩ | ⟨m,u,h1,h2⟩
  ·exact .inl ⟨by simpa using h1,by simpa using h2⟩
  ·exact .inr ⟨m,u,by simpa using h1,by simpa using h2⟩
theorem lt_loop(l b:Addr)(items items2:Array Value)(n n2:Nat)(dd dd2:Option Addr)(sl sl2:Array (Option Value))(ns ms:List Int)(hi:IntsAre items.toList ns)(hj:IntsAre items2.toList ms)(k:Nat):
  ∀i:Nat,ns.length-i=k→i≤ns.length→i≤ms.length→Meets (Builtin.«list.__eq__.loop» ⟨[.ref l,.ref b,rawInt i,rawInt 0],[]⟩)
   (fun _ R s=>s.heap.get? l=some {cls:= .type "list",dict:=dd,data:= .seq items n,slots:=sl}∧s.heap.get? b=some {cls:= .type "list",dict:=dd2,data:= .seq items2 n2,slots:=sl2}∧R (.ok (.ret (.bool (HT.lexLt (ns.drop i) (ms.drop i))))) s):=by
 have z1:items.size=ns.length:=by rw[←hi.length];simp
 have z2:items2.size=ms.length:=by rw[←hj.length];simp
 induction k with
 | zero=>
  intro i hk h1 h2 prog w A R s h
  obtain⟨hp,g,d,tk,os⟩:=s
  obtain⟨hl,hb,h⟩:=h
  have hend:i=ns.length:=by omega
  wp_walk using wpAny_loadPart' hl,wpAny_loadPart' hb
  have e1:items[((i:Nat):Int).toNat]? =none:=by simp;omega
  rw[e1]
  wp_walk using wpAny_loadPart' hl,wpAny_loadPart' hb
  show R (.ok (.ret (.bool (decide (items.size<items2.size))))) _
  have e2:HT.lexLt (ns.drop i) (ms.drop i)=decide (items.size<items2.size):=by
   rw[hend,List.drop_length,z1,z2]
   cases hm:ms.drop ns.length with
   | nil=>
    have:=congrArg List.length hm
    rw[List.length_drop,List.length_nil]at this
    exact(decide_eq_false (by omega)).symm
   | cons y ys=>
    have:=congrArg List.length hm
    rw[List.length_drop,List.length_cons]at this
    exact(decide_eq_true (by omega)).symm
  rw[←e2]
  exact h
 | succ k ih=>
  intro i hk h1 h2 prog w A R s h
  obtain⟨hp,g,d,tk,os⟩:=s
  obtain⟨hl,hb,h⟩:=h
  rcases ints_at i hi with ⟨q1,q2⟩ | ⟨x,t,q1,q2⟩
  ·have:=congrArg List.length q2
   rw[List.length_drop,List.length_nil]at this
   omega
  have e1:items[((i:Nat):Int).toNat]? =some (.int x t):=by simpa using q1
  rcases ints_at i hj with ⟨p1,p2⟩ | ⟨y,u,p1,p2⟩
  ·have hlen:=congrArg List.length p2
   rw[List.length_drop,List.length_nil]at hlen
   have e3:items2[((i:Nat):Int).toNat]? =none:=by simpa using p1
   wp_walk using wpAny_loadPart' hl,wpAny_loadPart' hb
   rw[e1,e3]
   wp_walk using wpAny_loadPart' hl,wpAny_loadPart' hb
   show R (.ok (.ret (.bool (decide (items.size<items2.size))))) _
   rw[q2,p2]at h
   have e2:decide (items.size<items2.size)=false:=decide_eq_false (by omega)
   rw[e2]
   exact h
  ·have e3:items2[((i:Nat):Int).toNat]? =some (.int y u):=by simpa using p1
   have hc:((i:Int)+1)=((i+1:Nat):Int):=by omega
   wp_walk using wpAny_loadPart' hl,wpAny_loadPart' hb
   rw[e1,e3]
   rw[q2,p2,HT.lexLt_cons]at h
   obtain⟨e,he,hiff⟩:=HT.eqAt_int A.in1 ⟨hp,g,d,tk,os⟩ x t y u
   refine wpAny_bind (he prog w _ _ ?_)
   cases e with
   | true=>
    rw[if_pos (hiff.mp rfl)]at h
    wp_walk
    rw[hc]
    have l1:=congrArg List.length q2
    have l2:=congrArg List.length p2
    rw[List.length_drop,List.length_cons]at l1 l2
    exact⟨plainId_quiet plain_eq_loop _,codeAny_builtin entry_eq_loop (by
     rw[Around.under_plainId plain_eq_loop _]
     exact ih (i+1) (by omega) (by omega) (by omega) prog w A R _ ⟨hl,hb,h⟩)⟩
   | false=>
    rw[if_neg (fun q=>absurd (hiff.mpr q) Bool.false_ne_true)]at h
    have hri:=HT.rcLt_int A.in1 ⟨hp,g,d,tk,os⟩ x t y u prog w
    wp_walk using wpAny_loadPart' hl,wpAny_loadPart' hb
    rw[e1,e3]
    wp_walk using hri
    exact h
theorem list_ltI(l b:Addr)(items items2:Array Value)(n n2:Nat)(dd dd2:Option Addr)(sl sl2:Array (Option Value))(ns ms:List Int)(hi:IntsAre items.toList ns)(hj:IntsAre items2.toList ms):
  Meets (Builtin.«list.__lt__» ⟨[.ref l,.ref b],[]⟩)
   (fun _ R s=>s.heap.get? l=some {cls:= .type "list",dict:=dd,data:= .seq items n,slots:=sl}∧s.heap.get? b=some {cls:= .type "list",dict:=dd2,data:= .seq items2 n2,slots:=sl2}∧R (.ok (.ret (.bool (HT.lexLt ns ms)))) s):=by
 intro prog w A R s h
 obtain⟨hp,g,d,tk,os⟩:=s
 obtain⟨hl,hb,h⟩:=h
 have f3:=AutoSeq1.sub_list_list
 wp_walk using wpAny_loadPart' hl,wpAny_loadPart' hb
 exact⟨plainId_quiet plain_eq_loop _,codeAny_builtin entry_eq_loop (by
  rw[Around.under_plainId plain_eq_loop _]
  exact lt_loop l b items items2 n n2 dd dd2 sl sl2 ns ms hi hj _ 0 rfl (Nat.zero_le _) (Nat.zero_le _) prog w A R _ ⟨hl,hb,h⟩)⟩
section
variable {prog:Program}{w:World}{A:Around}{E:Value→Shared→Prop}{s:Shared}
theorem keyLt_lists{l b:Addr}{ns ms:List Int}{vs us:List Value}{n n2:Nat}{Q:Bool→Shared→Prop}(hu:A.units<cLine)(ho:s.heap.get? l=some (seqObj "list" vs.toArray n))(ho2:s.heap.get? b=some (seqObj "list" us.toArray n2))(hi:IntsAre vs ns)(hj:IntsAre us ms)
  (h:Q (HT.lexLt ns ms) s):wpAny (model prog w) A (keyLt' oneType' (.ref l) (.ref b)) Q E s:=by
 rw[keyLt'_oneType,oneLt'_eq]
 simp only[if_true]
 have hT:s.TypeIs (.ref l) "list":=⟨_,ho,rfl⟩
 refine wpAny_bind (wpAny_cRoomFor hu (wpAny_bind (wpAny_callSpecialIfBound?_slot hT PySem.F.slot_list_lt (call_meets PySem.F.slot_list_lt hT PySem.F.entry_list_lt (PySem.F.args_list_lt_2 _ _)
  (list_ltI l b vs.toArray us.toArray n n2 none none #[] #[] ns ms (by simpa using hi) (by simpa using hj)) ⟨ho,ho2,?_⟩))))
 exact wpAny_truthy_bool h
end
def runO{α:Type}(lt:Nat→Nat→Bool)(n:Nat):PySem.W.KasT α→Option α
 | .ret a=>some a
 | .ask i j k=>if i<n∧j<n then runO lt n (k (lt i j))else none
theorem runO_wp{α:Type}{lt:Nat→Nat→Bool}{n:Nat}{cmp:Nat→Nat→(Bool→Shared→Prop)→Shared→Prop}{s:Shared}{Q:α→Shared→Prop}(hc: ∀i j C,i<n→j<n→C (lt i j) s→cmp i j C s):
  ∀(t:PySem.W.KasT α) (p:α),runO lt n t=some p→Q p s→t.kasWp cmp Q s
 | .ret a,p,e,h=>by
  cases e
  exact h
 | .ask i j k,p,e,h=>by
  unfold runO at e
  split at e
  ·rename_i hij
   exact hc i j _ hij.1 hij.2 (runO_wp hc (k (lt i j)) p e h)
  ·cases e
section
variable {X:Cx}
theorem sortL_ok{pins:List (Addr×Obj)}{σ:St}{H:Hp}{s:Shared}{Q:VK}{a:Addr}{as:List Addr}{ls:List (List Int)}{p:Array Nat}{k:Nat}(hr:Room k X.A)(I:Inv X pins σ H s)(hq:SqL X.K H a (as.map V.ref))
  (hL:Paired (fun b ns=>H b=some (.lst (ns.map V.int))) as ls)(h2:2≤as.length)(h64:as.length<64)(hpl: ∀i∈p.toList,i<as.length)(hpz:p.toList.length≤sizeLine)(hp:runO (fun i j=>HT.lexLt (ls.getD i []) (ls.getD j [])) as.length (PySem.W.kas_sort as.length)=some p)
  (h: ∀D,H D=none→Q (.ref D) (upd H D (.lst ((p.toList.map fun i=>as.getD i 0).map V.ref)))):wpAny (model X.prog X.w) X.A (call (.builtin "sorted") [.ref a]) (EP X pins σ Q) X.xe s:=by
 obtain⟨its,rv,pl,hz⟩:=I.list hq
 have ei:=refs_of rv
 subst ei
 obtain⟨m0,hm,_⟩:=id I.loc
 have mem: ∀b o,(b,o)∈Att.ledger s.heap X.env.locals X.env.locals↔b≠X.env.locals∧s.heap.get? b=some o:=fun b o=>by
  rw[Att.mem_ledger]
  exact⟨fun q=>⟨q.1,q.2.2⟩,fun q=>⟨q.1,q.1,q.2⟩⟩
 have obj: ∀i b,as[i]? =some b→ ∃(ns:List Int) (vs:List Value) (n:Nat),ls[i]? =some ns∧IntsAre vs ns∧s.heap.get? b=some (seqObj "list" vs.toArray n)∧b≠X.env.locals:=fun i b hb=>by
  obtain⟨ns,hns,hbo⟩: ∃ns,ls[i]? =some ns∧H b=some (.lst (ns.map V.int)):=paired_get hL hb
  obtain⟨_,vs,n,rvs,ho⟩:=I.hok b _ hbo
  exact⟨ns,vs,n,hns,intsAre_of rvs,ho,fun e=>by rw[e,I.free]at hbo;cases hbo⟩
 have N0:News (Att.noObjs s.heap) X.env.locals s.heap (Att.ledger s.heap X.env.locals X.env.locals):=fun q hq'=>by
  obtain⟨q1,q2⟩:=(mem q.1 q.2).mp hq'
  exact⟨q2,q1,Att.noObjs_get _ _⟩
 have hz2:(as.map Value.ref).length ≤sizeLine:=by rw[List.length_map]at hz ⊢;exact hz
 refine Calls.call_function_entry kind_sorted plain_sorted entry_sorted (args_sorted1 _) ?_
 unfold Builtin.«sorted»
 refine wpAny_bind (m:=checkCount "sorted" 1 1 _) (wpAny_pure (wpAny_bind (collect_list pl.isList (wpAny_bind (wpAny_newList ?_ hz2)) hz2)))
 have sA:((s.heap.push (seqObj "list" #[] 0)).update s.heap.objs.size (Obj.mapSeq (· ++(as.map Value.ref).toArray))).objs.size =s.heap.objs.size+1:=by rw[Heap.size_update,size_push']
 have kA: ∀b o,s.heap.get? b=some o→((s.heap.push (seqObj "list" #[] 0)).update s.heap.objs.size (Obj.mapSeq (· ++(as.map Value.ref).toArray))).get? b=some o:=fun b o q=>by
  have hlt:b<s.heap.objs.size:=Heap.lt_size q
  rw[Heap.get?_update_ne _ _ _ _ (Nat.ne_of_lt hlt),Heap.get?_push_ne _ _ _ (Nat.ne_of_lt hlt)]
  exact q
 generalize ((s.heap.push (seqObj "list" #[] 0)).update s.heap.objs.size (Obj.mapSeq (· ++(as.map Value.ref).toArray)))=hA at sA kA ⊢
 have gD:(hA.push (seqObj "list" (as.map Value.ref).toArray 0)).get? hA.objs.size=some (seqObj "list" (as.map Value.ref).toArray 0):=Heap.get?_push_size _ rfl
 have kB: ∀b o,s.heap.get? b=some o→(hA.push (seqObj "list" (as.map Value.ref).toArray 0)).get? b=some o:=fun b o q=>Heap.get?_push_of_some _ (kA b o q)
 show wpAny _ _ _ _ _ {s with heap:=hA.push (seqObj "list" (as.map Value.ref).toArray 0)}
 generalize hDe:hA.objs.size=D at gD ⊢
 have hD:s.heap.objs.size≤D:=by rw[←hDe,sA];exact Nat.le_succ _
 generalize (hA.push (seqObj "list" (as.map Value.ref).toArray 0))=hB at gD kB ⊢
 have fD:=I.fpOk hD (I.hok.fresh hD)
 have mB:hB.Ns X.env.locals m0:=by
  obtain⟨o,es,ep,e,rest⟩:=hm
  exact⟨o,es,ep,kB _ _ e,rest⟩
 have lt1: ∀b o,s.heap.get? b=some o→b≠D:=fun b o e=>Nat.ne_of_lt (Nat.lt_of_lt_of_le (Heap.lt_size e) hD)
 refine wpAny_bind (wpAny_holding (wpAny_call_entry slot_list_sort ⟨_,gD,rfl⟩ entry_list_sort ?body (args_list_sort _)))
 refine PySem.W.kas_list_sort (s:={s with heap:=hB}) (h₀:=Att.noObjs hB) (L:=X.env.locals) (m:=m0) (news:=Att.ledger s.heap X.env.locals X.env.locals) (vs:=as.map Value.ref) (T:= .type "list") (Att.fr_all mB)
  (fun q hq'=>?_) gD fD.2.1 (Att.noObjs_get _ _) (fun q hq'=>lt1 _ _ ((mem q.1 q.2).mp hq').2) (by rw[List.length_map];exact h2) (by rw[List.length_map];exact h64) (fun e1 g Fg Ng v hv=>?_) (by decide) (by decide) fun e1 g Fg Ng=>?_
 ·obtain⟨q1,q2⟩:=(mem q.1 q.2).mp hq'
  exact⟨kB _ _ q2,q1,Att.noObjs_get _ _⟩
 ·obtain⟨b,hb,rfl⟩:=List.mem_map.mp hv
  obtain⟨i,hi⟩:=List.getElem?_of_mem hb
  obtain⟨ns,vs,n,_,_,ho,hne⟩:=obj i b hi
  have hg:=(Ng (b,seqObj "list" vs.toArray n) (List.mem_cons_of_mem _ ((mem b _).mpr ⟨hne,ho⟩))).1
  exact(PySem.W.Looks.ld hg).andThen .now
 rw[List.length_map]
 have Nl: ∀b o,b≠X.env.locals→s.heap.get? b=some o→g.get? b=some o:=fun b o hne e=>(Ng (b,o) (List.mem_cons_of_mem _ ((mem b o).mpr ⟨hne,e⟩))).1
 have hu:X.A.in1.in1.units<cLine:=by
  have:=hr.un
  show X.A.units+1+1<cLine
  omega
 refine runO_wp (s:={s with heap:=g}) (fun i j C hi hj hC=>?_) _ p hp ?_
 ·obtain⟨b1,hb1⟩: ∃b,as[i]? =some b:=⟨_,List.getElem?_eq_getElem hi⟩
  obtain⟨b2,hb2⟩: ∃b,as[j]? =some b:=⟨_,List.getElem?_eq_getElem hj⟩
  obtain⟨ns1,vs1,n1,e1',i1,o1,ne1⟩:=obj i b1 hb1
  obtain⟨ns2,vs2,n2,e2',i2,o2,ne2⟩:=obj j b2 hb2
  have f1:(as.map Value.ref).getD i Value.none= .ref b1:=by rw[List.getD_eq_getElem?_getD,List.getElem?_map,hb1];rfl
  have f2:(as.map Value.ref).getD j Value.none= .ref b2:=by rw[List.getD_eq_getElem?_getD,List.getElem?_map,hb2];rfl
  have g1:ls.getD i []=ns1:=by rw[List.getD_eq_getElem?_getD,e1'];rfl
  have g2:ls.getD j []=ns2:=by rw[List.getD_eq_getElem?_getD,e2'];rfl
  unfold PySem.W.kas_ask
  rw[f1,f2]
  rw[g1,g2]at hC
  exact keyLt_lists hu (Nl _ _ ne1 o1) (Nl _ _ ne2 o2) i1 i2 hC
 ·refine PySem.W.KasFin.intro Fg Ng (.head fun q hq'=>lt1 _ _ ((mem q.1 q.2).mp hq').2) fun g2 c F2 N2=>?_
  have hout:(p.toList.map fun i=>(as.map Value.ref).getD i Value.none)=(p.toList.map fun i=>as.getD i 0).map Value.ref:=by
   rw[List.map_map]
   refine List.map_congr_left fun i hi=>?_
   show(as.map Value.ref).getD i Value.none=Value.ref (as.getD i 0)
   have hlt:i<as.length:=hpl i hi
   rw[List.getD_eq_getElem?_getD,List.getElem?_map,List.getElem?_eq_getElem hlt,List.getD_eq_getElem?_getD,List.getElem?_eq_getElem hlt]
   rfl
  rw[hout]at N2
  have gd2:=(N2 (D,_) (List.mem_cons_self ..)).1
  refine⟨_,rfl,wpAny_pure ⟨_,rfl,.ref D,_,Inv.two (s:=s) (h':=g2) (t':=s.toks) (m0:=m0) I fD fD hm F2.ns (fun b o n1 n2 n3 e=>(N2 (b,o) (List.mem_cons_of_mem _ ((mem b o).mpr ⟨n1,e⟩))).1) ?_,rfl,h D (I.hok.fresh hD)⟩⟩
  exact⟨by rw[List.length_map,List.length_map];exact hpz,_,c,vals_refs _,gd2⟩
theorem list_sort_one{prog:Program}{w:World}{A:Around}{E:Value→Shared→Prop}{s:Shared}{a:Addr}{v:Value}{n:Nat}{P:Fin→Shared→Prop}(ho:s.heap.get? a=some (seqObj "list" #[v] n))
  (h: ∀h' c,h'.get? a=some (seqObj "list" #[v] c)→(∀b o,b≠a→s.heap.get? b=some o→h'.get? b=some o)→P (.done (.ret .none)) {s with heap:=h'}):wpAny (model prog w) A (Builtin.«list.sort» ⟨[.ref a],[]⟩) P E s:=by
 have one: ∀k:Nat,1≤k→(#[v]:Array Value).size ≤k:=fun k hk=>hk
 have ha:a<s.heap.objs.size:=Heap.lt_size ho
 have t1:=Heap.SameBut.update s.heap a (Obj.mapSeq fun _=>(#[]:Array Value))
 have o1:=get?_update_seq ho fun _=>(#[]:Array Value)
 have z1:(s.heap.update a (Obj.mapSeq fun _=>(#[]:Array Value))).objs.size =s.heap.objs.size:=Heap.size_update ..
 rw[list_sort_plain]
 refine wpAny_bind (listItems_at ho rfl (wpAny_bind (listUpdate_at ho rfl ?_ (one _ (by decide)) (Nat.zero_le _))))
 generalize (s.heap.update a (Obj.mapSeq fun _=>(#[]:Array Value)))=g1 at t1 o1 z1 ⊢
 refine wpAny_bind (seqEpoch_at o1 rfl (wpAny_bind (wpAny_newTuple (wpAny_bind (wpAny_newList (wpAny_holding ?_) (Nat.zero_le _))) (one _ (by decide)))))
 show wpAny (model prog w) A _ P E {s with heap:=(g1.push (seqObj "tuple" #[v] 0)).push (seqObj "list" #[] 0)}
 have k6: ∀b o,g1.get? b=some o→((g1.push (seqObj "tuple" #[v] 0)).push (seqObj "list" #[] 0)).get? b=some o:=fun b o q=>Heap.get?_push_of_some _ (Heap.get?_push_of_some _ q)
 generalize ((g1.push (seqObj "tuple" #[v] 0)).push (seqObj "list" #[] 0))=g6 at k6 ⊢
 have o6:=k6 _ _ o1
 dsimp only
 have lt2:(#[v]:Array Value).size <2:=(by show 1<2;decide)
 rw[if_pos lt2,if_pos lt2]
 refine wpAny_bind (wpAny_pure ?_)
 rw[StateT.run_pure]
 refine wpAny_bind (wpAny_pure ?_)
 dsimp only
 have eo:(arrOf (SortSt.mk' general' ((#[v]:Array Value).zip #[v]) #[] 7 none)).map (·.2)= #[v]:=by
  show((#[v]:Array Value).zip #[v]).map (·.2)= #[v]
  simp
 rw[eo]
 have t7:=Heap.SameBut.update g6 a (Obj.mapSeq fun _=>(#[v]:Array Value))
 have o7:=get?_update_seq o6 fun _=>(#[v]:Array Value)
 refine wpAny_bind (seqEpoch_at o6 rfl (wpAny_bind (listUpdate_at o6 rfl ?_ (Nat.zero_le _) (one _ (by decide)))))
 simp only[bne_self_eq_false,Bool.false_eq_true,if_false]
 exact wpAny_pure (h _ _ o7 fun b o hb e=>(t7.2 b hb).trans (k6 _ _ ((t1.2 b hb).trans e)))
theorem sort1_ok{pins:List (Addr×Obj)}{σ:St}{H:Hp}{s:Shared}{Q:VK}{a x:Addr}(I:Inv X pins σ H s)(hq:SqL X.K H a [.ref x])(h: ∀D,H D=none→Q (.ref D) (upd H D (.lst [.ref x]))):
  wpAny (model X.prog X.w) X.A (call (.builtin "sorted") [.ref a]) (EP X pins σ Q) X.xe s:=by
 obtain⟨its,rv,pl,hz⟩:=I.list hq
 have ei:=refs_of (as:=[x]) rv
 subst ei
 obtain⟨m0,hm,_⟩:=id I.loc
 have one:(([x]:List Addr).map Value.ref).length ≤sizeLine:=by show 1≤sizeLine;decide
 refine Calls.call_function_entry kind_sorted plain_sorted entry_sorted (args_sorted1 _) ?_
 unfold Builtin.«sorted»
 refine wpAny_bind (m:=checkCount "sorted" 1 1 _) (wpAny_pure (wpAny_bind (collect_list pl.isList (wpAny_bind (wpAny_newList ?_ one)) one)))
 have sA:((s.heap.push (seqObj "list" #[] 0)).update s.heap.objs.size (Obj.mapSeq (· ++(([x]:List Addr).map Value.ref).toArray))).objs.size =s.heap.objs.size+1:=by rw[Heap.size_update,size_push']
 have kA: ∀b o,s.heap.get? b=some o→((s.heap.push (seqObj "list" #[] 0)).update s.heap.objs.size (Obj.mapSeq (· ++(([x]:List Addr).map Value.ref).toArray))).get? b=some o:=fun b o q=>by
  have hlt:b<s.heap.objs.size:=Heap.lt_size q
  rw[Heap.get?_update_ne _ _ _ _ (Nat.ne_of_lt hlt),Heap.get?_push_ne _ _ _ (Nat.ne_of_lt hlt)]
  exact q
 generalize ((s.heap.push (seqObj "list" #[] 0)).update s.heap.objs.size (Obj.mapSeq (· ++(([x]:List Addr).map Value.ref).toArray)))=hA at sA kA ⊢
 have gD:(hA.push (seqObj "list" #[.ref x] 0)).get? hA.objs.size=some (seqObj "list" #[.ref x] 0):=Heap.get?_push_size _ rfl
 have kB: ∀b o,s.heap.get? b=some o→(hA.push (seqObj "list" #[.ref x] 0)).get? b=some o:=fun b o q=>Heap.get?_push_of_some _ (kA b o q)
 show wpAny _ _ _ _ _ {s with heap:=hA.push (seqObj "list" #[.ref x] 0)}
 generalize hDe:hA.objs.size=D at gD ⊢
 have hD:s.heap.objs.size≤D:=by rw[←hDe,sA];exact Nat.le_succ _
 generalize (hA.push (seqObj "list" #[.ref x] 0))=hB at gD kB ⊢
 have fD:=I.fpOk hD (I.hok.fresh hD)
 have lt1: ∀b o,s.heap.get? b=some o→b≠D:=fun b o e=>Nat.ne_of_lt (Nat.lt_of_lt_of_le (Heap.lt_size e) hD)
 refine wpAny_bind (wpAny_holding (wpAny_call_entry slot_list_sort ⟨_,gD,rfl⟩ entry_list_sort ?body (args_list_sort _)))
 refine list_sort_one (s:={s with heap:=hB}) gD fun g2 c g2D k2=>⟨_,rfl,?_⟩
 have kk: ∀b o,s.heap.get? b=some o→g2.get? b=some o:=fun b o e=>k2 b o (lt1 b o e) (kB b o e)
 have mB:g2.Ns X.env.locals m0:=by
  obtain⟨o,es,ep,e,rest⟩:=hm
  exact⟨o,es,ep,kk _ _ e,rest⟩
 exact wpAny_pure ⟨_,rfl,.ref D,_,Inv.two (s:=s) (h':=g2) (t':=s.toks) (m0:=m0) (ho:= .lst [.ref x]) I fD fD hm mB (fun b o _ _ _ e=>kk b o e) ⟨by show 1≤sizeLine;decide,[.ref x],c,.cons rfl .nil,g2D⟩,rfl,h D (I.hok.fresh hD)⟩
def tSortL(K:PySem.W.Frag)(te:TE):TE:=fun σ H Q=>te σ H fun x H1=> ∃(a:Addr) (as:List Addr) (ls:List (List Int)) (p:Array Nat),x= .ref a∧SqL K H1 a (as.map V.ref)∧Paired (fun b ns=>H1 b=some (.lst (ns.map V.int))) as ls∧
 ((∃b,as=[b]∧ ∀D,H1 D=none→Q (.ref D) (upd H1 D (.lst [.ref b])))∨
  (2≤as.length∧as.length<64∧(∀i∈p.toList,i<as.length)∧p.toList.length≤sizeLine∧runO (fun i j=>HT.lexLt (ls.getD i []) (ls.getD j [])) as.length (PySem.W.kas_sort as.length)=some p∧
   ∀D,H1 D=none→Q (.ref D) (upd H1 D (.lst ((p.toList.map fun i=>as.getD i 0).map V.ref)))))
theorem call_sortL{k:Nat}(hr:Room k X.A):CallR X (.builtin "sorted") (fun xs H Q=> ∃x,xs=[x]∧tSortL X.K (fun _ H Q=>Q x H) [] H Q):=by
 intro pins s σ H xs us Q I r h
 obtain⟨x,rfl,a,as,ls,p,rfl,hq,hL,h⟩:=h
 obtain⟨u,rfl,ru⟩:=vals1 r
 obtain rfl:u=Value.ref a:=ru
 rcases h with ⟨b,rfl,h⟩ | ⟨h2,h64,h3,h4,h5,h⟩
 ·exact sort1_ok I hq h
 ·exact sortL_ok hr I hq hL h2 h64 h3 h4 h5 h
end
end L2
namespace L2
open PySem PySem.Spec PyProof.Rows
section
variable {X:Cx}{s:Shared}{H0:Hp}{scope:Scope}{env:Env}{fp:List Addr}
theorem bk_ix:IxR (X.blk s H0 scope env fp) (rIxL X.K):=ix_list
end
section
variable {X:Cx}
def setO(P:Program)(w:World)(a:Addr)(ns:List Int)(n:Nat):HO:= .ext fun h=>My.SetL P w h a (!My.byText w) (My.memS ns) n
theorem Inv.drawn{pins:List (Addr×Obj)}{σ:St}{H:Hp}{s:Shared}{d:Drawn}(I:Inv X pins σ H s):Inv X pins σ H {s with drawn:=d}:=⟨I.ok,I.os,I.bare,I.base,I.loc,I.cell,I.free,I.freeC,I.pin,I.hok,I.len⟩
theorem ints_vals: ∀{ns:List Int} {vs:List Value},Vals (ns.map V.int) vs→IntsAre vs ns
 | [],_,.nil => .nil
 | n::ns,_,.cons ⟨t,e⟩ r=>by
  subst e
  exact .cons n t (ints_vals r)
theorem call_setL(hc:X.calm=true):CallR X (.type "set") (fun xs H Q=> ∃a ns,xs=[.ref a]∧SqL X.K H a (ns.map V.int)∧ns.length≤1000∧ ∀p n,H p=none→n≤ns.length→Q (.ref p) (upd H p (setO X.prog X.w p ns n))):=by
 intro pins s σ H xs us Q I r h
 obtain⟨a,ns,rfl,hq,hl,h⟩:=h
 obtain⟨u,rfl,ru⟩:=vals1 r
 obtain rfl:u=Value.ref a:=ru
 obtain⟨its,rv,pl,hz⟩:=I.list hq
 refine My.call_set (items:=its.toArray) (ns:=ns) (I.ok.hd hc) pl.isList (by simpa using ints_vals rv) (by unfold scanBound;omega) fun h' tk n hn hS hk ht=>?_
 have kp: ∀b u,s.heap.get? b=some u→h'.get? b=some u:=fun b u e=>hk b u (Heap.lt_size e) e
 refine⟨.ref s.heap.objs.size,_,I.laid (t':=tk) kp (Nat.le_refl _) ?_,rfl,h _ n (I.hok.fresh (Nat.le_refl _)) hn⟩
 refine⟨hS,?_,fun h1 h2 q1 q2=>q1.kept q2⟩
 obtain⟨o,_,_,_,e,_⟩:=hS
 exact⟨o,e⟩
theorem call_sortS(hc:X.calm=true):CallR X (.builtin "sorted") (fun xs H Q=> ∃a ns n,xs=[.ref a]∧H a=some (setO X.prog X.w a ns n)∧n<64∧
  ∀(D:Addr) (ms:List Int),H D=none→ms.Pairwise (· ≤ ·)→(∀x,x∈ms↔x∈ns)→ms.length=n→Q (.ref D) (upd H D (.lst (ms.map V.int)))):=by
 intro pins s σ H xs us Q I r h
 obtain⟨a,ns,n,rfl,ha,hn,h⟩:=h
 obtain⟨u,rfl,ru⟩:=vals1 r
 obtain rfl:u=Value.ref a:=ru
 obtain⟨hS,_⟩:=I.hok a _ ha
 refine My.sorted_set (I.ok.hd hc) hS hn fun D h' d tk c out ms k1 k2 k3 k4 k5 k6 k7 k8=>?_
 refine⟨.ref D,_,Inv.drawn (d:=d) (I.laid (t':=tk) k7 k1 ?_),rfl,h D ms (I.hok.fresh k1) k4 k5 k6⟩
 refine⟨?_,out.toList,c,vals_ints k3,?_⟩
 ·rw[List.length_map,k6,sizeLine_eq]
  omega
 ·rw[k2]
end
theorem for_zip{K:PySem.W.Frag}{a b:Addr}{xs ys:List V}{g:TG}{tb:TS}{D:Ends}{σ:St}{H:Hp}(Pv:Nat→St→Hp→Prop)(h0:Pv 0 σ H)(hlen:xs.length≤ys.length)(hl: ∀i σ H,i≤xs.length→Pv i σ H→SqL K H a xs∧SqL K H b ys)
  (hs: ∀i x y σ H T,xs[i]? =some x→ys[i]? =some y→Pv i σ H→H T=none→g (.ref T) σ (upd H T (.tup [x,y])) fun σ2 H2=>tb {D with nx:=Pv (i+1),ct:=Pv (i+1),bk:=D.nx} σ2 H2)(hd: ∀σ H,Pv xs.length σ H→D.nx σ H):
  ∃W:Nat→Nat→St→Hp→Prop,(∃m,W 0 m σ H)∧ ∀i m σ H,W i m σ H→
   ((Itz K a b).stop i H∧D.nx σ H)∨((Itz K a b).go i H∧ ∃N:St→Hp→Prop,(∀σ' H',N σ' H'→ ∃m',m'<m∧W (i+1) m' σ' H')∧ ∀x H',(Itz K a b).yld i H x H'→g x σ H' fun σ2 H2=>tb {D with nx:=N,ct:=N,bk:=D.nx} σ2 H2):=by
 refine⟨fun i m σ H=>m+i=xs.length∧Pv i σ H,⟨xs.length,rfl,h0⟩,fun i m σ H hw=>?_⟩
 obtain⟨em,p⟩:=hw
 obtain⟨q1,q2⟩:=hl i σ H (by omega) p
 by_cases hlt:i<xs.length
 ·have hx:xs[i]? =some xs[i]:=List.getElem?_eq_getElem hlt
  have hy:ys[i]? =some (ys[i]'(by omega)):=List.getElem?_eq_getElem (by omega)
  refine .inr ⟨⟨xs,ys,xs[i],_,q1,q2,hx,hy⟩,Pv (i+1),fun σ' H' p'=>⟨m-1,by omega,by omega,p'⟩,fun x H' y=>?_⟩
  obtain⟨T,z1,z2,rfl,hT,rfl,hz1,hz2⟩:=y
  exact hs i z1 z2 σ H T (hz1 xs q1) (hz2 ys q2) p hT
 ·obtain rfl:i=xs.length:=by omega
  exact .inl ⟨⟨xs,ys,q1,q2,.inl (Nat.le_refl _)⟩,hd σ H p⟩
end L2
namespace My
open Vbhoae
structure Wn where
 st:Nat
 en:Nat
 ch:List Nat
def ovl(v w:Wn):Prop:=v.st<w.en∧w.st<v.en
def besideOne(st en t:Nat)(w:Wn):Wn:=if w.st<en∧st<w.en then{w with ch:=w.ch.filter fun c=>decide (c &&& t=0)}else w
def beside(ws:List Wn)(st en t:Nat):List Wn:=ws.map (besideOne st en t)
theorem besideOne_st(st en t:Nat)(w:Wn):(besideOne st en t w).st =w.st:=by unfold besideOne;split<;>rfl
theorem besideOne_en(st en t:Nat)(w:Wn):(besideOne st en t w).en =w.en:=by unfold besideOne;split<;>rfl
theorem mem_besideOne{st en t c:Nat}{w:Wn}:c∈(besideOne st en t w).ch ↔c∈w.ch∧(w.st<en∧st<w.en→c &&& t=0):=by
 unfold besideOne
 split
 ·rename_i h
  simp only[List.mem_filter,decide_eq_true_eq]
  exact⟨fun x=>⟨x.1,fun _=>x.2⟩,fun x=>⟨x.1,x.2 h⟩⟩
 ·rename_i h
  exact⟨fun x=>⟨x,fun y=>absurd y h⟩,fun x=>x.1⟩
def Giv(ws:List Wn):Prop:= ∃l:List (Wn×Nat),l.map Prod.fst=ws∧(∀p∈l,p.2∈p.1.ch)∧l.Pairwise fun p q=>ovl p.1 q.1→p.2 &&& q.2=0
theorem giv_nil:Giv []:=⟨[],rfl,(by simp),.nil⟩
theorem giv_cons{w:Wn}{r:List Wn}:Giv (w::r)↔ ∃t∈w.ch,Giv (beside r w.st w.en t):=by
 constructor
 ·rintro⟨l,e,hc,hp⟩
  match l,e with
  | (w',t)::l',e=>
   simp only[List.map_cons,List.cons.injEq]at e
   obtain⟨e1,e2⟩:=e
   subst e1 e2
   obtain⟨h1,h2⟩:=List.pairwise_cons.mp hp
   refine⟨t,hc (w',t) (List.mem_cons_self ..),l'.map (fun p=>(besideOne w'.st w'.en t p.1,p.2)),?_,?_,?_⟩
   ·unfold beside
    rw[List.map_map,List.map_map]
    rfl
   ·intro p hp'
    obtain⟨q,hq,rfl⟩:=List.mem_map.mp hp'
    refine mem_besideOne.mpr ⟨hc q (List.mem_cons_of_mem _ hq),fun ho=>?_⟩
    rw[Nat.and_comm]
    exact h1 q hq ⟨ho.2,ho.1⟩
   ·refine List.pairwise_map.mpr (h2.imp fun{a b} hab ho=>hab ?_)
    unfold ovl at ho ⊢
    simpa only[besideOne_st,besideOne_en] using ho
 ·rintro⟨t,ht,l,e,hc,hp⟩
  have key: ∀(l:List (Wn×Nat)) (r:List Wn),l.map Prod.fst=beside r w.st w.en t→(∀p∈l,p.2∈p.1.ch)→l.Pairwise (fun p q=>ovl p.1 q.1→p.2 &&& q.2=0)→
    ∃l':List (Wn×Nat),l'.map Prod.fst=r∧(∀p∈l',p.2∈p.1.ch∧(ovl w p.1→t &&& p.2=0))∧l'.Pairwise (fun p q=>ovl p.1 q.1→p.2 &&& q.2=0)∧l'.map (fun p=>(p.1.st,p.1.en,p.2))=l.map (fun p=>(p.1.st,p.1.en,p.2)):=by
   intro l
   induction l with
   | nil=>
    intro r e _ _
    cases r with
    | nil=>exact⟨[],rfl,(by simp),.nil,rfl⟩
    | cons a b=>cases e
   | cons p l ih=>
    intro r e hc hp
    cases r with
    | nil=>cases e
    | cons a b=>
     have e:p.1=besideOne w.st w.en t a∧l.map Prod.fst=beside b w.st w.en t:=by
      simpa [beside] using e
     obtain⟨h1,h2⟩:=List.pairwise_cons.mp hp
     obtain⟨l',a1,a2,a3,a4⟩:=ih b e.2 (fun q hq=>hc q (List.mem_cons_of_mem _ hq)) h2
     have hpc:=hc p (List.mem_cons_self ..)
     rw[e.1]at hpc
     have hm:=mem_besideOne.mp hpc
     refine⟨(a,p.2)::l',?_,?_,?_,?_⟩
     ·rw[List.map_cons,a1]
     ·intro q hq
      rcases List.mem_cons.mp hq with rfl | hq
      ·refine⟨hm.1,fun ho=>?_⟩
       rw[Nat.and_comm]
       exact hm.2 ⟨ho.2,ho.1⟩
      ·exact a2 q hq
     ·refine List.pairwise_cons.mpr ⟨fun q hq=>?_,a3⟩
      have hq':(q.1.st,q.1.en,q.2)∈l.map (fun p=>(p.1.st,p.1.en,p.2)):=a4▸List.mem_map.mpr ⟨q,hq,rfl⟩
      obtain⟨q0,hq0,eq0⟩:=List.mem_map.mp hq'
      simp only[Prod.mk.injEq]at eq0
      obtain⟨z1,z2,z3⟩:=eq0
      intro ho
      have h:=h1 q0 hq0
      rw[z3]at h
      refine h ?_
      unfold ovl at ho ⊢
      rw[e.1,besideOne_st,besideOne_en,z1,z2]
      exact ho
     ·rw[List.map_cons,List.map_cons,a4,e.1,besideOne_st,besideOne_en]
  obtain⟨l',a1,a2,a3,_⟩:=key l r e hc hp
  refine⟨(w,t)::l',by rw[List.map_cons,a1],fun p hp=>?_,List.pairwise_cons.mpr ⟨fun q hq=>(a2 q hq).2,a3⟩⟩
  rcases List.mem_cons.mp hp with rfl | hp
  ·exact ht
  ·exact(a2 p hp).1
theorem perm_lift{α β:Type}(f:α→β){a b:List β}(h:a.Perm b): ∀l:List α,l.map f=a→ ∃l':List α,l'.map f=b∧l.Perm l':=by
 induction h with
 | nil=>
  intro l e
  exact⟨l,e,.refl _⟩
 | cons x h ih=>
  intro l e
  match l,e with
  | y::l,e=>
   simp only[List.map_cons,List.cons.injEq]at e
   obtain⟨l',e',p⟩:=ih l e.2
   exact⟨y::l',by rw[List.map_cons,e',e.1],p.cons y⟩
 | swap x y t=>
  intro l e
  match l,e with
  | u::v::l,e=>
   simp only[List.map_cons,List.cons.injEq]at e
   exact⟨v::u::l,by simp[e.1,e.2.1,e.2.2],.swap ..⟩
 | trans h1 h2 ih1 ih2=>
  intro l e
  obtain⟨l1,e1,p1⟩:=ih1 l e
  obtain⟨l2,e2,p2⟩:=ih2 l1 e1
  exact⟨l2,e2,p1.trans p2⟩
theorem giv_perm{a b:List Wn}(h:a.Perm b):Giv a↔Giv b:=by
 have go: ∀{a b:List Wn},a.Perm b→Giv a→Giv b:=by
  intro a b h ⟨l,e,hc,hp⟩
  obtain⟨l',e',p⟩:=perm_lift Prod.fst h l e
  refine⟨l',e',fun q hq=>hc q (p.mem_iff.mpr hq),(p.pairwise_iff ?_).mp hp⟩
  intro x y hxy ho
  rw[Nat.and_comm]
  exact hxy ⟨ho.2,ho.1⟩
 exact⟨go h,go h.symm⟩
def offs(rows:List (List Nat))(i:Nat):Nat:=((rows.take (i-1)).map List.length).sum
def mask(r:Room)(b:Block):Nat:=(2 ^ (b.last+1-b.first)-1)*2 ^ (offs r.rows b.row+b.first-1)
theorem test_mask{n k j:Nat}:((2 ^ n-1)*2 ^ k).testBit j=(decide (k≤j)&&decide (j<k+n)):=by
 rw[←Nat.shiftLeft_eq,Nat.testBit_shiftLeft,Nat.testBit_two_pow_sub_one]
 by_cases h:k≤j
 ·simp only[ge_iff_le,h,decide_true,Bool.true_and]
  by_cases h2:j<k+n
  ·simp only[h2,decide_true,decide_eq_true_eq];omega
  ·simp only[h2,decide_false,decide_eq_false_iff_not];omega
 ·simp[h]
theorem and_zero{a b:Nat}:a &&& b=0↔ ∀j,¬(a.testBit j=true∧b.testBit j=true):=by
 constructor
 ·intro h j ⟨x,y⟩
  have e:=congrArg (fun z=>z.testBit j) h
  simp[Nat.testBit_and,x,y]at e
 ·intro h
  apply Nat.eq_of_testBit_eq
  intro j
  rw[Nat.testBit_and,Nat.zero_testBit]
  have:=h j
  cases e1:a.testBit j<;>cases e2:b.testBit j<;>simp_all
theorem mask_and{n k m l:Nat}(hn:0<n)(hm:0<m):((2 ^ n-1)*2 ^ k) &&& ((2 ^ m-1)*2 ^ l)=0↔(k+n≤l∨l+m≤k):=by
 rw[and_zero]
 simp only[test_mask,Bool.and_eq_true,decide_eq_true_eq]
 constructor
 ·intro h
  have h1:=h k
  have h2:=h l
  omega
 ·intro h j
  omega
def InRoom(r:Room)(b:Block):Prop:=1≤b.row∧b.row≤r.rows.length∧1≤b.first∧b.first≤b.last∧b.last≤(rowOf r b.row).length
theorem mem_blocks{r:Room}{b:Block}(h:b∈blocks r):InRoom r b:=by
 unfold blocks at h
 obtain⟨x,hx,h⟩:=List.mem_flatMap.mp h
 obtain⟨i,hi,h⟩:=List.mem_flatMap.mp h
 obtain⟨k,hk,rfl⟩:=List.mem_map.mp h
 have hi:=List.mem_range.mp hi
 have hk:=List.mem_range.mp hk
 obtain⟨h1,h2,h3⟩:=List.mem_zipIdx hx
 have e:rowOf r x.2=x.1:=by
  unfold rowOf
  rw[List.getElem?_eq_getElem (by omega)]
  exact h3.symm
 refine⟨h1,by show x.2≤_;omega,by show 1≤i+1;omega,by show i+1≤i+k+1;omega,?_⟩
 show i+k+1≤(rowOf r x.2).length
 rw[e]
 omega
theorem offs_step{rows:List (List Nat)}{i:Nat}(h1:1≤i)(h2:i≤rows.length):offs rows (i+1)=offs rows i+((rows[i-1]?).getD []).length :=by
 unfold offs
 obtain⟨j,rfl⟩: ∃j,i=j+1:=⟨i-1,by omega⟩
 simp only[Nat.add_sub_cancel]
 rw[List.take_add_one,List.getElem?_eq_getElem (by omega),List.map_append,List.sum_append]
 simp only[Option.toList,List.map_cons,List.map_nil,List.sum_cons,List.sum_nil,Option.getD,Nat.add_zero]
theorem offs_mono{rows:List (List Nat)}{i j:Nat}(h:i≤j):offs rows i≤offs rows j:=by
 unfold offs
 have:rows.take (i-1)=(rows.take (j-1)).take (i-1):=by
  rw[List.take_take]
  congr 1
  omega
 rw[this]
 generalize rows.take (j-1)=l
 generalize i-1=k
 induction l generalizing k with
 | nil=>simp
 | cons a l ih=>
  cases k with
  | zero=>simp
  | succ k=>
   have:=ih k
   simp only[List.take_succ_cons,List.map_cons,List.sum_cons]
   omega
theorem meets_comm(a b:Block):meets a b=meets b a:=by
 unfold meets
 rw[Bool.and_comm (decide (a.first≤b.last))]
 by_cases h:a.row=b.row
 ·rw[h]
 ·rw[beq_eq_false_iff_ne.mpr h,beq_eq_false_iff_ne.mpr (Ne.symm h)]
theorem mask_meets{r:Room}{b c:Block}(hb:InRoom r b)(hc:InRoom r c):mask r b &&& mask r c=0↔meets b c=false:=by
 obtain⟨b1,b2,b3,b4,b5⟩:=hb
 obtain⟨c1,c2,c3,c4,c5⟩:=hc
 unfold mask
 rw[mask_and (by omega) (by omega)]
 unfold meets
 have eb:=offs_step b1 b2
 have ec:=offs_step c1 c2
 have hlb:((r.rows[b.row-1]?).getD []).length =(rowOf r b.row).length :=rfl
 have hlc:((r.rows[c.row-1]?).getD []).length =(rowOf r c.row).length :=rfl
 by_cases e:b.row=c.row
 ·have:(b.row==c.row)=true:=beq_iff_eq.mpr e
  rw[this,e]
  simp only[Bool.true_and,Bool.and_eq_false_iff,decide_eq_false_iff_not]
  omega
 ·have:(b.row==c.row)=false:=by simp[e]
  rw[this]
  simp only[Bool.false_and,iff_true]
  rcases Nat.lt_or_gt_of_ne e with h | h
  ·have:=offs_mono (rows:=r.rows) (show b.row+1≤c.row from h)
   omega
  ·have:=offs_mono (rows:=r.rows) (show c.row+1≤b.row from h)
   omega
theorem firstOf_some{α β:Type}{f:α→Option β}: ∀{l:List α},(firstOf f l).isSome =l.any fun x=>(f x).isSome
 | []=>rfl
 | x::r=>by
  unfold firstOf
  rw[List.any_cons]
  cases f x with
  | some y=>rfl
  | none=>exact firstOf_some (l:=r)
theorem canSeat_nil{r:Room}{l:List Use}:canSeat r l []=true:=by simp[canSeat,seating]
theorem canSeat_cons{r:Room}{l:List Use}{w:Wish}{rest:List Wish}:canSeat r l (w::rest)=true↔ ∃b∈choices r w.size,fits l ⟨b,w.from_,w.to_⟩=true∧canSeat r (⟨b,w.from_,w.to_⟩::l) rest=true:=by
 unfold canSeat
 rw[seating,firstOf_some,List.any_eq_true]
 constructor
 ·rintro⟨b,hb,h⟩
  split at h
  ·rename_i hf
   exact⟨b,hb,hf,by simpa using h⟩
  ·cases h
 ·rintro⟨b,hb,hf,h⟩
  refine⟨b,hb,?_⟩
  rw[if_pos hf]
  simpa using h
def wn(r:Room)(l:List Use)(w:Wish):Wn:=⟨w.from_,w.to_,((choices r w.size).filter fun b=>fits l ⟨b,w.from_,w.to_⟩).map (mask r)⟩
theorem mem_choices{r:Room}{n:Nat}{b:Block}(h:b∈choices r n):InRoom r b:=mem_blocks (List.mem_filter.mp h).1
theorem wn_used{r:Room}{l:List Use}{u:Use}(hu:InRoom r u.block)(w:Wish):besideOne u.from_ u.to_ (mask r u.block) (wn r l w)=wn r (u::l) w:=by
 have hf: ∀b,fits (u::l) ⟨b,w.from_,w.to_⟩=(!clash u ⟨b,w.from_,w.to_⟩&&fits l ⟨b,w.from_,w.to_⟩):=fun b=>by simp[fits]
 unfold besideOne
 split
 ·rename_i h
  have h:w.from_<u.to_∧u.from_<w.to_:=h
  unfold wn
  simp only
  congr 1
  rw[List.filter_map,List.filter_filter]
  refine congrArg (List.map (mask r)) (List.filter_congr fun b hb=>?_)
  rw[hf]
  have hm:=mask_meets (mem_choices hb) hu
  have e:(decide (mask r b &&& mask r u.block=0))= !clash u ⟨b,w.from_,w.to_⟩:=by
   have hc:clash u ⟨b,w.from_,w.to_⟩=meets u.block b:=by
    unfold clash
    simp[h.1,h.2]
   have hs:meets u.block b=meets b u.block:=by
    exact meets_comm _ _
   rw[hc,hs]
   cases hv:meets b u.block with
   | false=>simp[hm.mpr hv]
   | true=>
    have: ¬(mask r b &&& mask r u.block=0):=fun q=>by rw[hm.mp q]at hv;cases hv
    simp[this]
  show(decide (mask r b &&& mask r u.block=0)&&fits l ⟨b,w.from_,w.to_⟩)=_
  rw[e]
 ·rename_i h
  have h: ¬(w.from_<u.to_∧u.from_<w.to_):=h
  unfold wn
  congr 2
  refine List.filter_congr fun b hb=>?_
  rw[hf]
  have hc:clash u ⟨b,w.from_,w.to_⟩=false:=by
   unfold clash
   rw[Bool.and_eq_false_iff]
   refine .inr ?_
   rw[Bool.and_eq_false_iff]
   simp only[decide_eq_false_iff_not]
   omega
  rw[hc]
  rfl
theorem wns_used{r:Room}{l:List Use}{u:Use}(hu:InRoom r u.block)(ws:List Wish):beside (ws.map (wn r l)) u.from_ u.to_ (mask r u.block)=ws.map (wn r (u::l)):=by
 unfold beside
 rw[List.map_map]
 exact List.map_congr_left fun w _=>wn_used hu w
theorem canSeat_giv{r:Room}: ∀(ws:List Wish) (l:List Use),canSeat r l ws=true↔Giv (ws.map (wn r l))
 | [],l=>⟨fun _=>giv_nil,fun _=>canSeat_nil⟩
 | w::rest,l=>by
  rw[canSeat_cons,List.map_cons,giv_cons]
  constructor
  ·rintro⟨b,hb,hf,h⟩
   refine⟨mask r b,List.mem_map.mpr ⟨b,List.mem_filter.mpr ⟨hb,hf⟩,rfl⟩,?_⟩
   have:=wns_used (r:=r) (l:=l) (u:=⟨b,w.from_,w.to_⟩) (mem_choices hb) rest
   show Giv (beside (rest.map (wn r l)) w.from_ w.to_ (mask r b))
   rw[this]
   exact(canSeat_giv rest _).mp h
  ·rintro⟨t,ht,h⟩
   obtain⟨b,hb,rfl⟩:=List.mem_map.mp ht
   obtain⟨hb,hf⟩:=List.mem_filter.mp hb
   refine⟨b,hb,hf,(canSeat_giv rest _).mpr ?_⟩
   have:=wns_used (r:=r) (l:=l) (u:=⟨b,w.from_,w.to_⟩) (mem_choices hb) rest
   rw[←this]
   exact h
def seatsT(loss:Nat)(t:List Nat):Nat:=if t=[]then 0 else t.sum-loss*(t.length-1)
def tabs(r:Room)(b:Block):List Nat:=((rowOf r b.row).drop (b.first-1)).take (b.last+1-b.first)
def less(r:Room)(b:Block):Nat:=max (seatsT r.loss (tabs r b).tail) (seatsT r.loss (tabs r b).dropLast)
theorem tabs_len{r:Room}{b:Block}(h:InRoom r b):(tabs r b).length =b.last+1-b.first:=by
 obtain⟨_,_,h3,h4,h5⟩:=h
 unfold tabs
 rw[List.length_take,List.length_drop]
 omega
theorem seats_tabs{r:Room}{b:Block}(h:InRoom r b):seats r b=seatsT r.loss (tabs r b):=by
 have hl:=tabs_len h
 obtain⟨_,_,h3,h4,h5⟩:=h
 unfold seatsT
 rw[if_neg (by intro e;rw[e]at hl;simp at hl;omega),hl]
 unfold seats tabs
 rw[show b.last+1-b.first-1=b.last-b.first by omega]
theorem seats_tail{r:Room}{b:Block}(h:InRoom r b)(hl:b.first<b.last):seats r {b with first:=b.first+1}=seatsT r.loss (tabs r b).tail :=by
 have e:(tabs r b).tail =tabs r {b with first:=b.first+1}:=by
  obtain⟨_,_,h3,h4,h5⟩:=h
  unfold tabs
  rw[←List.drop_one,List.drop_take,List.drop_drop]
  show((rowOf r b.row).drop (b.first-1+1)).take (b.last+1-b.first-1)=((rowOf r b.row).drop (b.first+1-1)).take (b.last+1-(b.first+1))
  rw[show b.first-1+1=b.first+1-1 by omega,show b.last+1-b.first-1=b.last+1-(b.first+1) by omega]
 rw[e]
 refine seats_tabs (b:={b with first:=b.first+1}) ?_
 obtain⟨h1,h2,h3,h4,h5⟩:=h
 exact⟨h1,h2,by show 1≤b.first+1;omega,hl,h5⟩
theorem seats_init{r:Room}{b:Block}(h:InRoom r b)(hl:b.first<b.last):seats r {b with last:=b.last-1}=seatsT r.loss (tabs r b).dropLast :=by
 have e:(tabs r b).dropLast =tabs r {b with last:=b.last-1}:=by
  have hlen:=tabs_len h
  obtain⟨_,_,h3,h4,h5⟩:=h
  rw[List.dropLast_eq_take,hlen]
  unfold tabs
  rw[List.take_take]
  show((rowOf r b.row).drop (b.first-1)).take (min (b.last+1-b.first-1) (b.last+1-b.first))=((rowOf r b.row).drop (b.first-1)).take (b.last-1+1-b.first)
  rw[show min (b.last+1-b.first-1) (b.last+1-b.first)=b.last-1+1-b.first by omega]
 rw[e]
 refine seats_tabs (b:={b with last:=b.last-1}) ?_
 obtain⟨h1,h2,h3,h4,h5⟩:=h
 exact⟨h1,h2,h3,by show b.first≤b.last-1;omega,by show b.last-1≤_;exact Nat.le_trans (Nat.sub_le _ _) h5⟩
theorem less_one{r:Room}{b:Block}(h:InRoom r b)(hl:b.first=b.last):less r b=0:=by
 have hlen:=tabs_len h
 unfold less
 have:(tabs r b).length =1:=by rw[hlen];omega
 match e:tabs r b,this with
 | [x],_=>simp[seatsT]
theorem tight_iff{r:Room}{b:Block}(h:InRoom r b){n:Nat}(hn:1≤n):tight r n b=(decide (less r b<n)&&decide (n≤seats r b)):=by
 unfold tight
 by_cases e:b.first=b.last
 ·rw[less_one h e,decide_eq_true e,decide_eq_true (show 0<n from hn)]
  simp
 ·have hl:b.first<b.last:=by
   obtain⟨_,_,_,h4,_⟩:=h
   omega
  rw[decide_eq_false e,seats_tail h hl,seats_init h hl]
  unfold less
  rw[Bool.false_or,Bool.and_comm]
  congr 1
  rw[←Bool.decide_and]
  exact decide_eq_decide.mpr (by omega)
def usedMask(r:Room)(us:List Use)(m:Nat):Nat:=us.foldl (fun t u=>if m<u.to_ then t ||| mask r u.block else t) 0
theorem usedMask_fold{r:Room}{x m:Nat}: ∀(us:List Use) (t:Nat),x &&& (us.foldl (fun t u=>if m<u.to_ then t ||| mask r u.block else t) t)=0↔x &&& t=0∧ ∀u∈us,m<u.to_→x &&& mask r u.block=0
 | [],t=>by simp
 | u::us,t=>by
  rw[List.foldl_cons,usedMask_fold us]
  by_cases h:m<u.to_
  ·rw[if_pos h]
   have:x &&& (t ||| mask r u.block)=0↔x &&& t=0∧x &&& mask r u.block=0:=by
    rw[Nat.and_or_distrib_left,Nat.or_eq_zero_iff]
   rw[this]
   simp only[List.mem_cons,forall_eq_or_imp]
   constructor
   ·rintro⟨⟨a,b⟩,c⟩;exact⟨a,fun _=>b,c⟩
   ·rintro⟨a,b,c⟩;exact⟨⟨a,b h⟩,c⟩
  ·rw[if_neg h]
   simp only[List.mem_cons,forall_eq_or_imp]
   constructor
   ·rintro⟨a,c⟩;exact⟨a,fun q=>absurd q h,c⟩
   ·rintro⟨a,_,c⟩;exact⟨a,c⟩
theorem usedMask_fits{r:Room}{us:List Use}{b:Block}{m e:Nat}(hb:InRoom r b)(hr: ∀u∈us,InRoom r u.block∧u.from_<e):decide (mask r b &&& usedMask r us m=0)=fits us ⟨b,m,e⟩:=by
 rw[Bool.eq_iff_iff,decide_eq_true_eq]
 unfold usedMask fits
 rw[usedMask_fold,List.all_eq_true]
 simp only[Nat.and_zero,true_and]
 refine forall_congr' fun u=>forall_congr' fun hu=>?_
 obtain⟨hi,hf⟩:=hr u hu
 rw[mask_meets hb hi,meets_comm b u.block]
 unfold clash
 simp only[hf,decide_true,Bool.true_and]
 cases meets u.block b<;>simp
theorem stable_unique{α:Type}(key:α→Nat): ∀{a b:List α},a.Pairwise (fun x y=>key x≤key y)→b.Pairwise (fun x y=>key x≤key y)→
  (∀c,a.filter (fun x=>key x==c)=b.filter (fun x=>key x==c))→a=b
 | [],[],_,_,_=>rfl
 | [],y::b,_,_,h=>by
  have:=h (key y)
  simp at this
 | x::a,[],_,_,h=>by
  have:=h (key x)
  simp at this
 | x::a,y::b,ha,hb,h=>by
  obtain⟨a1,a2⟩:=List.pairwise_cons.mp ha
  obtain⟨b1,b2⟩:=List.pairwise_cons.mp hb
  have hx:x∈(y::b).filter (fun z=>key z==key x):=by
   rw[←h (key x)]
   simp
  have hy:y∈(x::a).filter (fun z=>key z==key y):=by
   rw[h (key y)]
   simp
  have l1:key y≤key x:=by
   rcases List.mem_cons.mp (List.mem_filter.mp hx).1 with e | m
   ·rw[e];exact Nat.le_refl _
   ·exact b1 x m
  have l2:key x≤key y:=by
   rcases List.mem_cons.mp (List.mem_filter.mp hy).1 with e | m
   ·rw[e];exact Nat.le_refl _
   ·exact a1 y m
  have ek:key x=key y:=Nat.le_antisymm l2 l1
  have hk:=h (key x)
  rw[List.filter_cons,List.filter_cons,if_pos (by simp),if_pos (by simp[ek])]at hk
  obtain⟨e1,e2⟩:=List.cons.inj hk
  subst e1
  refine congrArg (List.cons x) (stable_unique key a2 b2 fun c=>?_)
  have hc:=h c
  rw[List.filter_cons,List.filter_cons]at hc
  by_cases e:key x=c
  ·rw[if_pos (by simp[e]),if_pos (by simp[e])]at hc
   exact(List.cons.inj hc).2
  ·rw[if_neg (by simp[e]),if_neg (by simp[e])]at hc
   exact hc
theorem insertBlock_mem{r:Room}{b x:Block}: ∀{l:List Block},x∈insertBlock r b l→x=b∨x∈l
 | [],h=> .inl (List.mem_singleton.mp h)
 | c::l,h=>by
  unfold insertBlock at h
  split at h
  ·exact List.mem_cons.mp h
  ·rcases List.mem_cons.mp h with e | m
   ·exact .inr (e▸List.mem_cons_self ..)
   ·exact(insertBlock_mem m).imp_right (List.mem_cons_of_mem _)
theorem insertBlock_sorted{r:Room}{b:Block}: ∀{l:List Block},l.Pairwise (fun x y=>seats r x≤seats r y)→(insertBlock r b l).Pairwise (fun x y=>seats r x≤seats r y)
 | [],_=>List.pairwise_singleton ..
 | c::l,h=>by
  obtain⟨h1,h2⟩:=List.pairwise_cons.mp h
  unfold insertBlock
  split
  ·rename_i q
   refine List.pairwise_cons.mpr ⟨fun x hx=>?_,h⟩
   rcases List.mem_cons.mp hx with e | m
   ·rw[e];exact q
   ·exact Nat.le_trans q (h1 x m)
  ·rename_i q
   refine List.pairwise_cons.mpr ⟨fun x hx=>?_,insertBlock_sorted h2⟩
   rcases insertBlock_mem hx with e | m
   ·rw[e];omega
   ·exact h1 x m
theorem insertBlock_key{r:Room}{b:Block}{c:Nat}: ∀{l:List Block},(insertBlock r b l).filter (fun x=>seats r x==c)=(b::l).filter (fun x=>seats r x==c)
 | []=>rfl
 | d::l=>by
  unfold insertBlock
  split
  ·rfl
  ·rename_i q
   rw[List.filter_cons,insertBlock_key (l:=l)]
   simp only[List.filter_cons]
   by_cases e1:seats r b=c
   ·have e2: ¬seats r d=c:=by omega
    simp[e1,e2]
   ·simp[e1]
theorem bySeats_sorted{r:Room}: ∀(l:List Block),(bySeats r l).Pairwise (fun x y=>seats r x≤seats r y)
 | []=> .nil
 | _::l=>insertBlock_sorted (bySeats_sorted l)
theorem bySeats_key{r:Room}{c:Nat}: ∀(l:List Block),(bySeats r l).filter (fun x=>seats r x==c)=l.filter (fun x=>seats r x==c)
 | []=>rfl
 | b::l=>by
  show(insertBlock r b (bySeats r l)).filter _=_
  rw[insertBlock_key,List.filter_cons,List.filter_cons,bySeats_key l]
theorem bySeats_filter{r:Room}(p:Block→Bool)(l:List Block):(bySeats r l).filter p=bySeats r (l.filter p):=by
 refine stable_unique (seats r) ((bySeats_sorted l).filter _) (bySeats_sorted _) fun c=>?_
 rw[bySeats_key,List.filter_filter,List.filter_filter]
 have e: ∀x:Block,((seats r x==c)&&p x)=(p x&&(seats r x==c)):=fun x=>Bool.and_comm _ _
 rw[show(fun a=>(seats r a==c)&&p a)=(fun a=>p a&&(seats r a==c))from funext e,←List.filter_filter,bySeats_key,List.filter_filter]
theorem find_filter{α:Type}{p q:α→Bool}: ∀{l:List α},l.find? (fun x=>p x&&q x)=(l.filter p).find? q
 | []=>rfl
 | x::l=>by
  rw[List.find?_cons,List.filter_cons]
  cases hp:p x with
  | false=>
   simp only[Bool.false_and,Bool.false_eq_true,if_false]
   exact find_filter (l:=l)
  | true=>
   simp only[Bool.true_and,if_true,List.find?_cons]
   rw[find_filter (l:=l)]
theorem table_eq{s:State}{n to_:Nat}:table s n to_=(bySeats s.room ((choices s.room n).filter fun b=>fits (used s) ⟨b,s.now,to_+s.clearing⟩)).find? fun b=>canSeat s.room (⟨b,s.now,to_+s.clearing⟩::used s) (wishes s (promised s)):=by
 unfold table
 rw[find_filter,bySeats_filter]
def prom(s:State):List (Party×Nat):=(s.parties.zipIdx 1).filter fun x=>decide (x.1.stage=0)
theorem insertBy_perm(x:Nat×Party): ∀l:List (Nat×Party),(insertBy x l).Perm (x::l)
 | []=> .refl _
 | y::l=>by
  unfold insertBy
  split
  ·exact .refl _
  ·exact((insertBy_perm x l).cons y).trans (.swap ..)
theorem foldr_insertBy_perm: ∀l:List (Nat×Party),(l.foldr insertBy []).Perm l
 | []=> .refl _
 | x::l=>(insertBy_perm x _).trans ((foldr_insertBy_perm l).cons x)
theorem promised_perm(s:State):(promised s).Perm ((prom s).map fun x=>(x.2,x.1)):=foldr_insertBy_perm _
def wants(s:State):List Wn:=(prom s).map fun x=>wn s.room (used s) (wishOf s x.1)
theorem wishes_perm(s:State)(u:List Use):((wishes s (promised s)).map (wn s.room u)).Perm ((prom s).map fun x=>wn s.room u (wishOf s x.1)):=by
 unfold wishes
 have:=((promised_perm s).map (fun x=>wishOf s x.2)).map (wn s.room u)
 rw[List.map_map,List.map_map,List.map_map]at this
 rw[List.map_map]
 exact this
theorem sound_iff(s:State):sound s=true↔Giv (wants s):=by
 unfold sound
 rw[canSeat_giv]
 exact giv_perm (wishes_perm s _)
theorem seat_iff(s:State)(u:Use)(hu:InRoom s.room u.block):canSeat s.room (u::used s) (wishes s (promised s))=true↔Giv (beside (wants s) u.from_ u.to_ (mask s.room u.block)):=by
 rw[canSeat_giv]
 refine(giv_perm (wishes_perm s _)).trans ?_
 unfold wants beside
 rw[List.map_map]
 have:((prom s).map fun x=>wn s.room (u::used s) (wishOf s x.1))=(prom s).map (besideOne u.from_ u.to_ (mask s.room u.block)∘fun x=>wn s.room (used s) (wishOf s x.1)):=
  List.map_congr_left fun x _=>(wn_used hu _).symm
 rw[this]
theorem firstOf_flatMap{α:Type}{P:α→Bool}{f:Nat→List α}: ∀(ks:List Nat),firstOf (fun k=>(f k).find? P) ks=(ks.flatMap f).find? P
 | []=>rfl
 | k::ks=>by
  rw[firstOf,List.flatMap_cons,List.find?_append,firstOf_flatMap ks]
  cases (f k).find? P<;>rfl
theorem some_map{f:Nat→Nat}: ∀(k:Nat) (l:List Nat),some_ k (l.map f)=(some_ k l).map (List.map f)
 | 0,l=>by cases l<;>rfl
 | k+1,[]=>rfl
 | k+1,x::r=>by
  rw[List.map_cons,some_,some_,some_map k r,some_map (k+1) r,List.map_append,List.map_map,List.map_map]
  rfl
theorem some_sub: ∀(k:Nat) (l t:List Nat),t∈some_ k l→ ∀x∈t,x∈l
 | 0,l,t,h,x,hx=>by
  have:t=[]:=by cases l<;>simpa [some_] using h
  rw[this]at hx
  cases hx
 | k+1,[],t,h,_,_=>nomatch h
 | k+1,a::r,t,h,x,hx=>by
  rw[some_]at h
  rcases List.mem_append.mp h with h | h
  ·obtain⟨u,hu,rfl⟩:=List.mem_map.mp h
   rcases List.mem_cons.mp hx with e | m
   ·exact e▸List.mem_cons_self ..
   ·exact List.mem_cons_of_mem _ (some_sub k r u hu x m)
  ·exact List.mem_cons_of_mem _ (some_sub (k+1) r t h x hx)
def placeLists(n:Nat):List (List Nat):=(List.range (n+1)).flatMap fun k=>some_ k (List.range n)
theorem placeLists_sub{n:Nat}{t:List Nat}(h:t∈placeLists n): ∀x∈t,x<n:=by
 obtain⟨k,_,hk⟩:=List.mem_flatMap.mp h
 exact fun x hx=>List.mem_range.mp (some_sub k _ t hk x hx)
theorem range_map_get{l:List Nat}:(List.range l.length).map (fun i=>l.getD i 0)=l:=by
 apply List.ext_getElem
 ·simp
 ·intro i h1 h2
  simp[List.getD_eq_getElem?_getD,List.getElem?_eq_getElem h2]
def leaveOut{α:Type}(l:List α)(places:List Nat):List α:=(l.zipIdx.filter fun y=> !places.contains y.2).map Prod.fst
theorem leaveOut_map{α β:Type}(f:α→β)(l:List α)(places:List Nat):leaveOut (l.map f) places=(leaveOut l places).map f:=by
 unfold leaveOut
 rw[List.zipIdx_map,List.filter_map,List.map_map,List.map_map]
 rfl
theorem zipIdx_get{α:Type}{l:List α}{y:α×Nat}(h:y∈l.zipIdx):l[y.2]? =some y.1:=by
 obtain⟨_,h2,h3⟩:=List.mem_zipIdx h
 rw[List.getElem?_eq_getElem (by omega)]
 simp[h3]
theorem leaveOut_num{l:List (Party×Nat)}(hn:(l.map Prod.snd).Nodup){places:List Nat}(hp: ∀i∈places,i<l.length):
  (l.filter fun x=> !(places.map fun i=>(l.map Prod.snd).getD i 0).contains x.2)=leaveOut l places:=by
 unfold leaveOut
 have e:l=l.zipIdx.map Prod.fst:=by simp
 conv=>lhs;rw[e,List.filter_map]
 refine congrArg (List.map Prod.fst) (List.filter_congr fun y hy=>?_)
 have hg:=zipIdx_get hy
 have hlt:y.2<l.length:=(List.getElem?_eq_some_iff.mp hg).1
 have hs:(l.map Prod.snd).getD y.2 0=y.1.2:=by
  rw[List.getD_eq_getElem?_getD,List.getElem?_map,hg]
  rfl
 show(!(List.map (fun i=>(List.map Prod.snd (l.zipIdx.map Prod.fst)).getD i 0) places).contains y.1.2)=_
 rw[←e]
 congr 1
 rw[Bool.eq_iff_iff]
 simp only[List.contains_iff_mem,List.mem_map]
 constructor
 ·rintro⟨i,hi,ei⟩
  have hi':=hp i hi
  have hii:(l.map Prod.snd).getD i 0=(l.map Prod.snd).getD y.2 0:=ei.trans hs.symm
  have l1:i<(l.map Prod.snd).length :=by simpa using hi'
  have l2:y.2<(l.map Prod.snd).length :=by simpa using hlt
  rw[List.getD_eq_getElem?_getD,List.getD_eq_getElem?_getD,List.getElem?_eq_getElem l1,List.getElem?_eq_getElem l2]at hii
  have:=(List.getElem_inj (h₀:=l1) (h₁:=l2) hn).mp hii
  rw[←this]
  exact hi
 ·intro h
  exact⟨y.2,h,hs⟩
theorem zipIdx_snd_nodup{α:Type}(l:List α)(k:Nat):((l.zipIdx k).map Prod.snd).Nodup :=by
 rw[List.zipIdx_map_snd]
 exact List.nodup_range'
theorem prom_nodup(s:State):((prom s).map Prod.snd).Nodup :=by
 unfold prom
 exact(zipIdx_snd_nodup s.parties 1).sublist ((List.filter_sublist).map _)
theorem without_zip(s:State)(t:List Nat):(without s t).parties.zipIdx 1=(s.parties.zipIdx 1).map fun x=>((if t.contains x.2=true then{x.1 with stage:=5}else x.1),x.2):=by
 unfold without
 simp only
 rw[List.zipIdx_map]
 apply List.ext_getElem
 ·simp
 ·intro i h1 h2
  simp
def offOne(t:List Nat)(x:Party×Nat):Party×Nat:=((if t.contains x.2=true then{x.1 with stage:=5}else x.1),x.2)
theorem offs_filter(t:List Nat): ∀L:List (Party×Nat),(L.map (offOne t)).filter (fun x=>decide (x.1.stage=0))=(L.filter fun x=>decide (x.1.stage=0)).filter fun x=> !t.contains x.2
 | []=>rfl
 | x::L=>by
  rw[List.map_cons,List.filter_cons,List.filter_cons,offs_filter t L]
  by_cases h:t.contains x.2=true
  ·have e:(offOne t x).1.stage =5:=by unfold offOne;rw[if_pos h]
   rw[if_neg (by simp[e])]
   split
   ·rw[List.filter_cons,if_neg (by rw[h];decide)]
   ·rfl
  ·have e:offOne t x=x:=by unfold offOne;rw[if_neg h]
   rw[e]
   split
   ·rw[List.filter_cons,if_pos (by simpa using h)]
   ·rfl
theorem prom_without(s:State)(t:List Nat):prom (without s t)=(prom s).filter fun x=> !t.contains x.2:=by
 unfold prom
 rw[without_zip]
 exact offs_filter t _
theorem used_off(t:List Nat)(c:Nat): ∀L:List (Party×Nat),(∀x∈L,t.contains x.2=true→x.1.stage=0)→
  (((L.map (offOne t)).map Prod.fst).filter fun p=>decide (p.stage=1∨p.stage=2))=((L.map Prod.fst).filter fun p=>decide (p.stage=1∨p.stage=2))
 | [],_=>rfl
 | x::L,h=>by
  simp only[List.map_cons]
  rw[List.filter_cons,List.filter_cons,used_off t c L fun y hy=>h y (List.mem_cons_of_mem _ hy)]
  by_cases q:t.contains x.2=true
  ·have e:(offOne t x).1.stage =5:=by unfold offOne;rw[if_pos q]
   have e0:=h x (List.mem_cons_self ..) q
   rw[if_neg (by simp[e]),if_neg (by simp[e0])]
  ·have e:offOne t x=x:=by unfold offOne;rw[if_neg q]
   rw[e]
theorem zipIdx_fst{α:Type}(l:List α)(k:Nat):(l.zipIdx k).map Prod.fst=l:=by simp
theorem used_without(s:State)(t:List Nat)(h: ∀n∈t,n∈(prom s).map Prod.snd):used (without s t)=used s:=by
 have hz:=without_zip s t
 have e:(without s t).parties =((s.parties.zipIdx 1).map (offOne t)).map Prod.fst:=by
  rw[←zipIdx_fst (without s t).parties 1,hz]
  rfl
 unfold used
 rw[e,used_off t 0]
 ·rw[zipIdx_fst]
  rfl
 ·intro x hx hc
  have hm:=h x.2 (List.contains_iff_mem.mp hc)
  obtain⟨y,hy,ey⟩:=List.mem_map.mp hm
  obtain⟨hy1,hy2⟩:=List.mem_filter.mp hy
  have hxy:x=y:=by
   obtain⟨a1,a2,a3⟩:=List.mem_zipIdx hx
   obtain⟨b1,b2,b3⟩:=List.mem_zipIdx hy1
   apply Prod.ext
   ·rw[a3,b3]
    congr 1
    rw[ey]
   ·exact ey.symm
  rw[hxy]
  exact of_decide_eq_true hy2
theorem wants_without(s:State)(t:List Nat)(h: ∀n∈t,n∈(prom s).map Prod.snd):wants (without s t)=((prom s).filter fun x=> !t.contains x.2).map fun x=>wn s.room (used s) (wishOf s x.1):=by
 unfold wants
 rw[prom_without,used_without s t h]
 rfl
theorem trouble_eq(s:State)(P:List Nat→Bool)(hP: ∀places,(∀i∈places,i<(prom s).length)→(P places=true↔Giv (leaveOut (wants s) places))):
  trouble s=(((placeLists (prom s).length).find? P).map (List.map fun i=>((prom s).map Prod.snd).getD i 0)).getD []:=by
 unfold trouble
 simp only
 rw[firstOf_flatMap]
 have el:(((s.parties.zipIdx 1).filter fun x=>decide (x.1.stage=0)).map fun x=>x.2)=(List.range (prom s).length).map (fun i=>((prom s).map Prod.snd).getD i 0):=by
  have:=range_map_get (l:=(prom s).map Prod.snd)
  rw[List.length_map]at this
  rw[this]
  rfl
 rw[el]
 have ef:((List.range (List.length ((List.range (prom s).length).map fun i=>((prom s).map Prod.snd).getD i 0)+1)).flatMap fun k=>some_ k ((List.range (prom s).length).map fun i=>((prom s).map Prod.snd).getD i 0))=
   (placeLists (prom s).length).map (List.map fun i=>((prom s).map Prod.snd).getD i 0):=by
  unfold placeLists
  rw[List.length_map,List.length_range,List.map_flatMap]
  congr 1
  funext k
  exact some_map k _
 rw[ef,List.find?_map]
 congr 2
 have hall: ∀t∈placeLists (prom s).length,((fun t=>sound (without s t))∘List.map fun i=>((prom s).map Prod.snd).getD i 0) t=P t:=by
  intro t ht
  have hb:=placeLists_sub ht
  rw[Bool.eq_iff_iff]
  show sound (without s (t.map fun i=>((prom s).map Prod.snd).getD i 0))=true↔_
  rw[sound_iff,hP t hb,wants_without,leaveOut_num (prom_nodup s) hb]
  ·unfold wants
   rw[leaveOut_map]
  ·intro n hn
   obtain⟨i,hi,rfl⟩:=List.mem_map.mp hn
   have hl:i<((prom s).map Prod.snd).length :=by rw[List.length_map];exact hb i hi
   rw[List.getD_eq_getElem?_getD,List.getElem?_eq_getElem hl]
   exact List.getElem_mem hl
 generalize placeLists (prom s).length =L at hall
 induction L with
 | nil=>rfl
 | cons t L ih=>
  rw[List.find?_cons,List.find?_cons,hall t (List.mem_cons_self ..),ih fun u hu=>hall u (List.mem_cons_of_mem _ hu)]
structure GoodP(s:State)(p:Party):Prop where
 use:p.stage=1∨p.stage=2→p.from_≤s.now∧InRoom s.room p.block
 wait:p.stage=0→s.now<p.to_∧p.from_<p.to_
 at1:p.stage=1→s.now<p.to_
 blk: ¬(p.stage=1∨p.stage=2)→p.block=⟨0,0,0⟩
 size:1≤p.size∧p.size≤80
 stg:p.stage≤5
structure GoodR(r:Room):Prop where
 three: ∃a b c:List Nat,r.rows=[a,b,c]∧a≠ []∧a.length+b.length+c.length≤8
 seat: ∀l∈r.rows,∀x∈l,1≤x∧x≤10
 loss:r.loss≤3
structure Good(s:State):Prop where
 pty: ∀p∈s.parties,GoodP s p
 few:s.parties.length≤60
 five:waitingCount s≤5
 time:s.now≤100000
 shut:s.opened=false→s=start
 room:s.opened=true→GoodR s.room
 clr:s.clearing≤60
theorem good_start:Good start:=⟨fun _ h=>(nomatch h),by decide,by decide,by decide,fun _=>rfl,fun h=>(nomatch h),by decide⟩
theorem mapAt_get{α:Type}{g:α→α}: ∀{i:Nat} {l:List α} {j:Nat},(mapAt g i l)[j]? =if j=i then(l[j]?).map g else l[j]?
 | i,[],j=>by
  have e:mapAt g i ([]:List α)=[]:=by cases i<;>rfl
  rw[e]
  split<;>rfl
 | 0,x::l,0=>by simp[mapAt]
 | 0,x::l,j+1=>by simp[mapAt]
 | i+1,x::l,0=>by simp[mapAt]
 | i+1,x::l,j+1=>by
  show(x::mapAt g i l)[j+1]? =if j+1=i+1 then _ else _
  rw[List.getElem?_cons_succ,mapAt_get (i:=i) (l:=l) (j:=j),List.getElem?_cons_succ]
  by_cases h:j=i<;>simp[h]
theorem mapAt_len{α:Type}{g:α→α}: ∀{i:Nat} {l:List α},(mapAt g i l).length =l.length
 | i,[]=>by cases i<;>rfl
 | 0,x::l=>rfl
 | i+1,x::l=>by
  show(mapAt g i l).length +1=l.length+1
  rw[mapAt_len]
theorem mapAt_mem{α:Type}{g:α→α}{i:Nat}{l:List α}{y:α}(h:y∈mapAt g i l):y∈l∨ ∃x,l[i]? =some x∧y=g x:=by
 obtain⟨j,hj⟩:=List.getElem?_of_mem h
 rw[mapAt_get]at hj
 split at hj
 ·rename_i e
  obtain⟨x,hx,rfl⟩:=Option.map_eq_some_iff.mp hj
  exact .inr ⟨x,e▸hx,rfl⟩
 ·exact .inl (List.mem_of_getElem? hj)
theorem partyOf_some{s:State}{n:Nat}{x:Party}(h:partyOf s n=some x):1≤n∧s.parties[n-1]? =some x:=by
 unfold partyOf at h
 split at h
 ·cases h
 ·exact⟨by omega,h⟩
theorem table_mem{s:State}{n to_:Nat}{b:Block}(h:table s n to_=some b):InRoom s.room b:=by
 rw[table_eq]at h
 have hm:=List.mem_of_find?_eq_some h
 have key: ∀(l:List Block),b∈bySeats s.room l→b∈l:=by
  intro l
  induction l with
  | nil=>exact fun h=>h
  | cons a l ih=>
   intro h
   rcases insertBlock_mem (l:=bySeats s.room l) h with e | m
   ·exact e▸List.mem_cons_self ..
   ·exact List.mem_cons_of_mem _ (ih m)
 exact mem_choices (List.mem_filter.mp (key _ hm)).1
theorem wc_le_of{f:Party→Party}(hf: ∀p,(f p).stage =0→p.stage=0): ∀(l:List Party),((l.map f).filter fun p=>decide (p.stage=0)).length ≤(l.filter fun p=>decide (p.stage=0)).length
 | []=>Nat.le_refl _
 | p::l=>by
  have ih:=wc_le_of hf l
  rw[List.map_cons,List.filter_cons,List.filter_cons]
  by_cases h:(f p).stage =0
  ·rw[if_pos (decide_eq_true h),if_pos (decide_eq_true (hf p h))]
   simp only[List.length_cons]
   omega
  ·rw[if_neg (by simpa using h)]
   split
   ·simp only[List.length_cons]
    omega
   ·exact ih
theorem wc_mapAt{g:Party→Party}(hg: ∀p,(g p).stage =0→p.stage=0): ∀(i:Nat) (l:List Party),((mapAt g i l).filter fun p=>decide (p.stage=0)).length ≤(l.filter fun p=>decide (p.stage=0)).length
 | i,[]=>by cases i<;>exact Nat.le_refl _
 | 0,p::l=>by
  show((g p::l).filter _).length ≤_
  rw[List.filter_cons,List.filter_cons]
  by_cases h:(g p).stage =0
  ·rw[if_pos (decide_eq_true h),if_pos (decide_eq_true (hg p h))]
   simp only[List.length_cons]
   omega
  ·rw[if_neg (by simpa using h)]
   split
   ·simp only[List.length_cons]
    omega
   ·exact Nat.le_refl _
 | i+1,p::l=>by
  have ih:=wc_mapAt hg i l
  show((p::mapAt g i l).filter _).length ≤_
  rw[List.filter_cons,List.filter_cons]
  split
  ·simp only[List.length_cons]
   omega
  ·exact ih
theorem wc_append(l:List Party)(p:Party):((l++[p]).filter fun p=>decide (p.stage=0)).length =(l.filter fun p=>decide (p.stage=0)).length +if p.stage=0 then 1 else 0:=by
 rw[List.filter_append,List.length_append,List.filter_cons]
 by_cases h:p.stage=0
 ·simp[h]
 ·simp[h]
theorem Good.set{s:State}(G:Good s)(ho:s.opened=true)(n:Nat)(g:Party→Party)(hs: ∀p,(g p).stage =0→p.stage=0)(h: ∀x,s.parties[n-1]? =some x→GoodP s (g x)):Good (setParty s n g):=by
 refine⟨fun p hp=>?_,?_,?_,G.time,fun h=>?_,G.room,G.clr⟩
 ·have hp':p∈mapAt g (n-1) s.parties:=hp
  rcases mapAt_mem hp' with m | ⟨x,hx,rfl⟩
  ·exact⟨(G.pty p m).use,(G.pty p m).wait,(G.pty p m).at1,(G.pty p m).blk,(G.pty p m).size,(G.pty p m).stg⟩
  ·exact⟨(h x hx).use,(h x hx).wait,(h x hx).at1,(h x hx).blk,(h x hx).size,(h x hx).stg⟩
 ·show(mapAt g (n-1) s.parties).length ≤60
  rw[mapAt_len]
  exact G.few
 ·exact Nat.le_trans (wc_mapAt hs _ _) G.five
 ·have h:s.opened=false:=h
  rw[ho]at h
  cases h
theorem Good.add{s:State}(G:Good s)(ho:s.opened=true)(p:Party)(h:GoodP s p)(hl:s.parties.length<60)(hw:p.stage=0→waitingCount s<5):Good (withParty s p):=by
 refine⟨fun q hq=>?_,?_,?_,G.time,fun h=>?_,G.room,G.clr⟩
 ·have hq':q∈s.parties++[p]:=hq
  rcases List.mem_append.mp hq' with m | m
  ·exact⟨(G.pty q m).use,(G.pty q m).wait,(G.pty q m).at1,(G.pty q m).blk,(G.pty q m).size,(G.pty q m).stg⟩
  ·rw[List.mem_singleton.mp m]
   exact⟨h.use,h.wait,h.at1,h.blk,h.size,h.stg⟩
 ·show(s.parties++[p]).length ≤60
  rw[List.length_append,List.length_singleton]
  omega
 ·show((s.parties++[p]).filter fun p=>decide (p.stage=0)).length ≤5
  rw[wc_append]
  have:=G.five
  unfold waitingCount at this hw
  split
  ·rename_i e
   have:=hw e
   omega
  ·omega
 ·have h:s.opened=false:=h
  rw[ho]at h
  cases h
theorem Good.passed{s:State}(G:Good s)(ho:s.opened=true)(m:Nat)(hm:s.now+m≤100000):Good (passed s m):=by
 unfold Vbhoae.passed
 refine⟨fun q hq=>?_,?_,?_,hm,fun h=>?_,G.room,G.clr⟩
 ·obtain⟨p,hp,rfl⟩:=List.mem_map.mp hq
  have g:=G.pty p hp
  obtain⟨g1,g2,g3,g4,g5,g6⟩:=g
  by_cases e1:p.stage=1∧p.to_≤s.now+m
  ·rw[if_pos e1]
   have:=g1 (.inl e1.1)
   exact⟨fun _=>⟨by show p.from_≤s.now+m;omega,this.2⟩,fun h=>(by cases h),fun h=>(by cases h),fun h=>absurd (.inr rfl) h,g5,by show 2≤5;omega⟩
  ·rw[if_neg e1]
   by_cases e2:p.stage=0∧p.to_≤s.now+m
   ·rw[if_pos e2]
    exact⟨fun h=>(by simp at h),fun h=>(by cases h),fun h=>(by cases h),fun _=>g4 (by omega),g5,by show 4≤5;omega⟩
   ·rw[if_neg e2]
    refine⟨fun h=>⟨?_,(g1 h).2⟩,fun h=>⟨?_,(g2 h).2⟩,fun h=>?_,g4,g5,g6⟩
    ·have:=(g1 h).1
     show p.from_≤s.now+m
     omega
    ·show s.now+m<p.to_
     omega
    ·show s.now+m<p.to_
     omega
 ·rw[List.length_map]
  exact G.few
 ·refine Nat.le_trans (wc_le_of (fun p h=>?_) _) G.five
  split at h
  ·cases h
  ·split at h
   ·cases h
   ·exact h
 ·have h:s.opened=false:=h
  rw[ho]at h
  cases h
theorem Good.without{s:State}(G:Good s)(ho:s.opened=true)(t:List Nat)(ht: ∀n∈t,n∈(prom s).map Prod.snd):Good (without s t):=by
 have mem: ∀q∈(Vbhoae.without s t).parties,q∈s.parties∨ ∃p∈s.parties,p.stage=0∧q={p with stage:=5}:=by
  intro q hq
  unfold Vbhoae.without at hq
  obtain⟨x,hx,rfl⟩:=List.mem_map.mp hq
  have hxm:x.1∈s.parties:=by
   have:=List.mem_map_of_mem (f:=Prod.fst) hx
   rw[zipIdx_fst]at this
   exact this
  split
  ·rename_i hc
   obtain⟨y,hy,ey⟩:=List.mem_map.mp (ht x.2 (List.contains_iff_mem.mp hc))
   obtain⟨hy1,hy2⟩:=List.mem_filter.mp hy
   have hxy:x=y:=by
    obtain⟨a1,a2,a3⟩:=List.mem_zipIdx hx
    obtain⟨b1,b2,b3⟩:=List.mem_zipIdx hy1
    apply Prod.ext
    ·rw[a3,b3]
     congr 1
     rw[ey]
    ·exact ey.symm
   exact .inr ⟨x.1,hxm,by rw[hxy];exact of_decide_eq_true hy2,rfl⟩
  ·exact .inl hxm
 refine⟨fun q hq=>?_,?_,?_,G.time,fun h=>?_,G.room,G.clr⟩
 ·rcases mem q hq with m | ⟨p,hp,h0,rfl⟩
  ·exact⟨(G.pty q m).use,(G.pty q m).wait,(G.pty q m).at1,(G.pty q m).blk,(G.pty q m).size,(G.pty q m).stg⟩
  ·exact⟨fun h=>(by simp at h),fun h=>(by cases h),fun h=>(by cases h),fun _=>(G.pty p hp).blk (by omega),(G.pty p hp).size,by show 5≤5;omega⟩
 ·show((s.parties.zipIdx 1).map _).length ≤60
  rw[List.length_map,List.length_zipIdx]
  exact G.few
 ·have e:waitingCount (Vbhoae.without s t)=(prom (Vbhoae.without s t)).length :=by
   unfold waitingCount prom
   have h:=zipIdx_fst (Vbhoae.without s t).parties 1
   conv=>lhs;rw[←h,List.filter_map,List.length_map]
   rfl
  have e2:waitingCount s=(prom s).length :=by
   unfold waitingCount prom
   have h:=zipIdx_fst s.parties 1
   conv=>lhs;rw[←h,List.filter_map,List.length_map]
   rfl
  rw[e,prom_without]
  have:=G.five
  rw[e2]at this
  exact Nat.le_trans (List.length_filter_le ..) this
 ·have h:s.opened=false:=h
  rw[ho]at h
  cases h
theorem waiting_prom(s:State):waitingCount s=(prom s).length :=by
 unfold waitingCount prom
 have h:=zipIdx_fst s.parties 1
 conv=>lhs;rw[←h,List.filter_map,List.length_map]
 rfl
theorem trouble_sub(s:State): ∀n∈trouble s,n∈(prom s).map Prod.snd:=by
 intro n hn
 unfold trouble at hn
 simp only at hn
 rw[firstOf_flatMap]at hn
 cases e:((List.range ((((s.parties.zipIdx 1).filter fun x=>decide (x.1.stage=0)).map fun x=>x.2).length +1)).flatMap fun k=>some_ k (((s.parties.zipIdx 1).filter fun x=>decide (x.1.stage=0)).map fun x=>x.2)).find? fun t=>sound (without s t)with
 | none=>
  rw[e]at hn
  cases hn
 | some t=>
  rw[e]at hn
  obtain⟨k,_,hk⟩:=List.mem_flatMap.mp (List.mem_of_find?_eq_some e)
  exact some_sub k _ t hk n hn
def InR:Call→Prop
 | .opens loss clearing a b c=>loss≤3∧clearing≤60∧(∀l∈ [a,b,c],∀x∈l,1≤x∧x≤10)
 | .book n _ len=>(1≤n∧n≤80)∧1≤len
 | .walkin n len=>(1≤n∧n≤80)∧1≤len
 | _=>True
theorem does_good{s t:State}{c:Call}{l:List Int}(G:Good s)(ho:s.opened=true∨isOpens c=true)(hr:InR c)(h:does s c= .ok (t,l)):Good t:=by
 cases c with
 | opens loss clearing a b c=>
  rw[does]at h
  split at h
  ·cases h
  ·split at h
   ·cases h
   ·rename_i h1 h2
    cases h
    obtain⟨r1,r2,r3⟩:=hr
    refine⟨fun _ h=>(nomatch h),Nat.zero_le _,Nat.zero_le _,Nat.zero_le _,fun h=>(nomatch h),fun _=>⟨⟨nats a,nats b,nats c,rfl,?_,?_⟩,?_,r1⟩,r2⟩
    ·intro e
     exact h2 (.inl (List.map_eq_nil_iff.mp e))
    ·unfold nats
     simp only[List.length_map]
     have: ¬TABLES<a.length+b.length+c.length:=fun q=>h2 (.inr q)
     unfold TABLES at this
     omega
    ·intro l hl x hx
     have: ∃z∈ [a,b,c],l=nats z:=by
      simp only[List.mem_cons,List.not_mem_nil,or_false]at hl
      rcases hl with rfl | rfl | rfl
      ·exact⟨a,by simp,rfl⟩
      ·exact⟨b,by simp,rfl⟩
      ·exact⟨c,by simp,rfl⟩
     obtain⟨z,hz,rfl⟩:=this
     obtain⟨y,hy,rfl⟩:=List.mem_map.mp hx
     have:=r3 z hz y hy
     omega
 | book n t0 len=>
  have ho:s.opened=true:=ho.resolve_right (by simp[isOpens])
  rw[does]at h
  split at h
  ·cases h
  ·split at h
   ·cases h
   ·split at h
    ·cases h
    ·dsimp only at h
     split at h
     ·cases h
     ·rename_i h1 h2 _ _
      cases h
      have hp: ¬PARTIES≤s.parties.length:=fun q=>h2 (.inl q)
      have hw: ¬WAITING≤waitingCount s:=fun q=>h2 (.inr q)
      unfold PARTIES at hp
      unfold WAITING at hw
      obtain⟨r1,r2⟩:=hr
      exact G.add ho _ ⟨fun h=>(by simp at h),fun _=>⟨by show s.now<t0+len;omega,by show t0<t0+len;omega⟩,fun h=>(by cases h),fun _=>rfl,r1,Nat.zero_le _⟩ (by omega) (fun _=>by omega)
 | cancel p=>
  have ho:s.opened=true:=ho.resolve_right (by simp[isOpens])
  rw[does]at h
  split at h
  ·cases h
  ·rename_i x hx
   split at h
   ·cases h
   ·rename_i h1
    cases h
    have h1:x.stage=0:=Decidable.not_not.mp h1
    obtain⟨_,hx'⟩:=partyOf_some hx
    refine G.set ho p _ (fun _ h=>(by cases h)) fun y hy=>?_
    rw[hx']at hy
    cases hy
    have g:=G.pty x (List.mem_of_getElem? hx')
    exact⟨fun h=>(by simp at h),fun h=>(by cases h),fun h=>(by cases h),fun _=>g.blk (by omega),g.size,by show 3≤5;omega⟩
 | arrive p=>
  have ho:s.opened=true:=ho.resolve_right (by simp[isOpens])
  rw[does]at h
  split at h
  ·cases h
  ·rename_i x hx
   split at h
   ·cases h
   ·rename_i h1
    dsimp only at h
    split at h
    ·cases h
    ·rename_i b hb
     cases h
     have h1:x.stage=0:=Decidable.not_not.mp h1
     have hb':InRoom (setParty s p fun y=>{y with stage:=3}).room b:=table_mem hb
     obtain⟨_,hx'⟩:=partyOf_some hx
     refine G.set ho p _ (fun _ h=>(by cases h)) fun y hy=>?_
     rw[hx']at hy
     cases hy
     have g:=G.pty x (List.mem_of_getElem? hx')
     exact⟨fun _=>⟨Nat.le_refl _,hb'⟩,fun h=>(by cases h),fun _=>(g.wait h1).1,fun h=>absurd (.inl rfl) h,g.size,by show 1≤5;omega⟩
 | walkin n len=>
  have ho:s.opened=true:=ho.resolve_right (by simp[isOpens])
  rw[does]at h
  split at h
  ·cases h
  ·rename_i hp
   split at h
   ·cases h
   ·rename_i b hb
    cases h
    unfold PARTIES at hp
    obtain⟨r1,r2⟩:=hr
    exact G.add ho _ ⟨fun _=>⟨Nat.le_refl _,table_mem hb⟩,fun h=>(by cases h),fun _=>(by show s.now<s.now+len;omega),fun h=>absurd (.inl rfl) h,r1,by show 1≤5;omega⟩ (by omega) (fun h=>(by cases h))
 | leave p=>
  have ho:s.opened=true:=ho.resolve_right (by simp[isOpens])
  rw[does]at h
  split at h
  ·cases h
  ·rename_i x hx
   split at h
   ·cases h
   ·rename_i h1
    cases h
    have h1:x.stage=1:=Decidable.not_not.mp h1
    obtain⟨_,hx'⟩:=partyOf_some hx
    refine G.set ho p _ (fun _ h=>(by cases h)) fun y hy=>?_
    rw[hx']at hy
    cases hy
    have g:=G.pty x (List.mem_of_getElem? hx')
    exact⟨fun _=>g.use (.inl h1),fun h=>(by cases h),fun h=>(by cases h),fun h=>absurd (.inr rfl) h,g.size,by show 2≤5;omega⟩
 | stay p m=>
  have ho:s.opened=true:=ho.resolve_right (by simp[isOpens])
  rw[does]at h
  split at h
  ·cases h
  ·rename_i x hx
   split at h
   ·cases h
   ·rename_i h1
    cases h
    have h1:x.stage=1:=Decidable.not_not.mp h1
    obtain⟨_,hx'⟩:=partyOf_some hx
    refine G.set ho p _ (fun _ h=>h) fun y hy=>?_
    rw[hx']at hy
    cases hy
    have g:=G.pty x (List.mem_of_getElem? hx')
    exact⟨fun h=>g.use h,fun h=>(by rw[h1]at h;cases h),fun _=>(by have:=g.at1 h1;show s.now<x.to_+m;omega),fun h=>absurd (.inl h1) h,g.size,g.stg⟩
 | pass m=>
  have ho:s.opened=true:=ho.resolve_right (by simp[isOpens])
  rw[does]at h
  split at h
  ·cases h
  ·rename_i h1
   cases h
   unfold TIME at h1
   exact G.passed ho m (by omega)
 | tellOff=>
  have ho:s.opened=true:=ho.resolve_right (by simp[isOpens])
  rw[does]at h
  cases h
  exact G.without ho _ (trouble_sub s)
 | plan=>
  rw[does]at h
  split at h
  ·cases h
  ·cases h;exact G
 | quote n len=>
  rw[does]at h
  split at h
  ·cases h
  ·split at h<;>(cases h;exact G)
 | trouble=>rw[does]at h;cases h;exact G
 | free n=>rw[does]at h;cases h;exact G
 | tables=>rw[does]at h;cases h;exact G
 | party p=>
  rw[does]at h
  split at h
  ·cases h
  ·cases h;exact G
 | state=>rw[does]at h;cases h;exact G
theorem mem_used{s:State}{u:Use}(h:u∈used s): ∃p∈s.parties,(p.stage=1∨p.stage=2)∧u=⟨p.block,p.from_,p.to_+s.clearing⟩:=by
 unfold used at h
 obtain⟨p,hp,rfl⟩:=List.mem_map.mp h
 obtain⟨h1,h2⟩:=List.mem_filter.mp hp
 exact⟨p,h1,of_decide_eq_true h2,rfl⟩
theorem Good.used{s:State}(G:Good s){u:Use}(h:u∈used s):InRoom s.room u.block∧u.from_≤s.now:=by
 obtain⟨p,hp,hs,rfl⟩:=mem_used h
 exact⟨((G.pty p hp).use hs).2,((G.pty p hp).use hs).1⟩
def openBlocks(s:State)(n m:Nat):List Block:=(choices s.room n).filter fun b=>decide (mask s.room b &&& usedMask s.room (used s) m=0)
theorem openBlocks_fits{s:State}(G:Good s){n m e:Nat}(he:s.now<e):openBlocks s n m=(choices s.room n).filter fun b=>fits (used s) ⟨b,m,e⟩:=by
 unfold openBlocks
 refine List.filter_congr fun b hb=>?_
 exact usedMask_fits (mem_choices hb) fun u hu=>⟨(G.used hu).1,Nat.lt_of_le_of_lt (G.used hu).2 he⟩
def wantOf(s:State)(p:Party):Wn:=⟨max p.from_ s.now,p.to_+s.clearing,(openBlocks s p.size (max p.from_ s.now)).map (mask s.room)⟩
theorem wantOf_eq{s:State}(G:Good s){p:Party}(hp:s.now<p.to_):wantOf s p=wn s.room (used s) (wishOf s p):=by
 unfold wantOf wn
 rw[openBlocks_fits G (e:=p.to_+s.clearing) (by omega)]
 rfl
theorem mem_prom{s:State}{x:Party×Nat}(h:x∈prom s):x.1∈s.parties∧x.1.stage=0:=by
 obtain⟨h1,h2⟩:=List.mem_filter.mp h
 refine⟨?_,of_decide_eq_true h2⟩
 have:=List.mem_map_of_mem (f:=Prod.fst) h1
 rw[zipIdx_fst]at this
 exact this
theorem wants_eq{s:State}(G:Good s):wants s=(prom s).map fun x=>wantOf s x.1:=by
 unfold wants
 refine List.map_congr_left fun x hx=>(wantOf_eq G ?_).symm
 obtain⟨h1,h2⟩:=mem_prom hx
 exact((G.pty _ h1).wait h2).1
theorem prom_add{s:State}{p:Party}(hp:p.stage=0):prom (withParty s p)=prom s++[(p,s.parties.length+1)]:=by
 unfold prom withParty
 simp only
 rw[List.zipIdx_append,List.filter_append]
 congr 1
 simp[hp,Nat.add_comm]
theorem used_add{s:State}{p:Party}(hp:p.stage=0):used (withParty s p)=used s:=by
 unfold used withParty
 simp only
 rw[List.filter_append,List.filter_cons,if_neg (by simp[hp]),List.filter_nil,List.append_nil]
theorem wants_add{s:State}(G:Good s){p:Party}(hp:p.stage=0)(ht:s.now<p.to_):wants (withParty s p)=((prom s).map fun x=>wantOf s x.1)++[wantOf s p]:=by
 have e:wants (withParty s p)=wants s++[wn s.room (used s) (wishOf s p)]:=by
  unfold wants
  rw[prom_add hp,used_add hp,List.map_append]
  rfl
 rw[e,wants_eq G,wantOf_eq G ht]
theorem zipIdx_mapAt{g:Party→Party}(i k:Nat): ∀(l:List Party),(mapAt g i l).zipIdx k=(l.zipIdx k).map fun x=>((if x.2=i+k then g x.1 else x.1),x.2):=by
 intro l
 apply List.ext_getElem?
 intro j
 rw[List.getElem?_zipIdx,mapAt_get,List.getElem?_map,List.getElem?_zipIdx]
 by_cases h:j=i
 ·subst h
  rw[if_pos rfl]
  cases l[j]? with
  | none=>rfl
  | some x=>simp[Nat.add_comm]
 ·rw[if_neg h]
  cases l[j]? with
  | none=>rfl
  | some x=>
   have: ¬k+j=i+k:=by omega
   simp[this]
theorem prom_set{s:State}{n:Nat}(hn:1≤n){g:Party→Party}(hg: ∀p,(g p).stage ≠0):prom (setParty s n g)=(prom s).filter fun x=>decide (x.2≠n):=by
 unfold prom setParty
 simp only
 rw[zipIdx_mapAt]
 generalize s.parties.zipIdx 1=L
 induction L with
 | nil=>rfl
 | cons x L ih=>
  rw[List.map_cons,List.filter_cons,List.filter_cons,ih]
  by_cases h:x.2=n
  ·have e:x.2=n-1+1:=by omega
   rw[if_pos e,if_neg (by simpa using hg x.1)]
   split
   ·rw[List.filter_cons,if_neg (by simp[h])]
   ·rfl
  ·have e: ¬x.2=n-1+1:=by omega
   rw[if_neg e]
   split
   ·rw[List.filter_cons,if_pos (by simp[h])]
   ·rfl
theorem used_set{s:State}{n:Nat}{g:Party→Party}{x:Party}(hx:s.parties[n-1]? =some x)(h0: ¬(x.stage=1∨x.stage=2))(h1: ¬((g x).stage =1∨(g x).stage =2)):used (setParty s n g)=used s:=by
 unfold used setParty
 simp only
 congr 1
 have key: ∀(i:Nat) (l:List Party),l[i]? =some x→((mapAt g i l).filter fun p=>decide (p.stage=1∨p.stage=2))=l.filter fun p=>decide (p.stage=1∨p.stage=2):=by
  intro i l
  induction l generalizing i with
  | nil=>intro h;cases h
  | cons y l ih=>
   intro h
   cases i with
   | zero=>
    cases h
    show((g x::l).filter _)=_
    rw[List.filter_cons,List.filter_cons,if_neg (by simpa using h1),if_neg (by simpa using h0)]
   | succ i=>
    show((y::mapAt g i l).filter _)=_
    rw[List.filter_cons,List.filter_cons,ih i h]
 exact key _ _ hx
theorem table_find{s:State}(G:Good s){n to_:Nat}(hto:s.now<to_)(P:Block→Bool)(hP: ∀b,InRoom s.room b→(P b=true↔Giv (beside ((prom s).map fun x=>wantOf s x.1) s.now (to_+s.clearing) (mask s.room b)))):
  table s n to_=(bySeats s.room (openBlocks s n s.now)).find? P:=by
 rw[table_eq,openBlocks_fits G (e:=to_+s.clearing) (by omega)]
 have key: ∀(l:List Block),(∀b∈l,InRoom s.room b)→(l.find? fun b=>canSeat s.room (⟨b,s.now,to_+s.clearing⟩::used s) (wishes s (promised s)))=l.find? P:=by
  intro l
  induction l with
  | nil=>intro _;rfl
  | cons b l ih=>
   intro h
   have hb:=h b (List.mem_cons_self ..)
   rw[List.find?_cons,List.find?_cons,ih fun c hc=>h c (List.mem_cons_of_mem _ hc)]
   have e:canSeat s.room (⟨b,s.now,to_+s.clearing⟩::used s) (wishes s (promised s))=P b:=by
    rw[Bool.eq_iff_iff,hP b hb,seat_iff s ⟨b,s.now,to_+s.clearing⟩ hb,wants_eq G]
   rw[e]
 refine key _ fun b hb=>?_
 have mem: ∀(l:List Block),b∈bySeats s.room l→b∈l:=by
  intro l
  induction l with
  | nil=>exact fun h=>h
  | cons a l ih=>
   intro h
   rcases insertBlock_mem (l:=bySeats s.room l) h with e | m
   ·exact e▸List.mem_cons_self ..
   ·exact List.mem_cons_of_mem _ (ih m)
 exact mem_choices (List.mem_filter.mp (mem _ hb)).1
inductive Shaped:List (List Int)→Prop
 | c0 (l c:Int) (r s t:List Int):Shaped [[0,l,c],r,s,t]
 | c1 (n t m:Int):Shaped [[1,n,t,m]]
 | c2 (p:Int):Shaped [[2,p]]
 | c3 (p:Int):Shaped [[3,p]]
 | c4 (n m:Int):Shaped [[4,n,m]]
 | c5 (p:Int):Shaped [[5,p]]
 | c6 (p m:Int):Shaped [[6,p,m]]
 | c7 (m:Int):Shaped [[7,m]]
 | c8:Shaped [[8]]
 | c9 (n m:Int):Shaped [[9,n,m]]
 | c10:Shaped [[10]]
 | c11:Shaped [[11]]
 | c12 (n:Int):Shaped [[12,n]]
 | c13:Shaped [[13]]
 | c14 (p:Int):Shaped [[14,p]]
 | c15:Shaped [[15]]
theorem shaped_of{c:List (List Int)}(h:PyFlat.okCall PyVbhoae.shape c):Shaped c:=by
 obtain⟨p,a,xs,rfl,hs⟩:=h
 unfold PyVbhoae.shape at hs
 have k0: ∀{n m:Nat},(some (n,m):Option (Nat×Nat))=some (a.length,xs.length)→a.length=n∧xs.length=m:=fun e=>by
  have:=Option.some.inj e
  exact⟨(congrArg Prod.fst this).symm,(congrArg Prod.snd this).symm⟩
 rcases Decidable.em (p=0)with e | e
 ·rw[if_pos e]at hs
  obtain⟨h1,h2⟩:=k0 hs
  subst e
  match a,xs,h1,h2 with
  | [x,y],[r,s,t],_,_=>exact .c0 x y r s t
 rw[if_neg e]at hs
 clear e
 rcases Decidable.em (p=1)with e | e
 ·rw[if_pos e]at hs
  obtain⟨h1,h2⟩:=k0 hs
  subst e
  match a,xs,h1,h2 with
  | [x,y,z],[],_,_=>exact .c1 x y z
 rw[if_neg e]at hs
 clear e
 rcases Decidable.em (p=2)with e | e
 ·rw[if_pos e]at hs
  obtain⟨h1,h2⟩:=k0 hs
  subst e
  match a,xs,h1,h2 with
  | [x],[],_,_=>exact .c2 x
 rw[if_neg e]at hs
 clear e
 rcases Decidable.em (p=3)with e | e
 ·rw[if_pos e]at hs
  obtain⟨h1,h2⟩:=k0 hs
  subst e
  match a,xs,h1,h2 with
  | [x],[],_,_=>exact .c3 x
 rw[if_neg e]at hs
 clear e
 rcases Decidable.em (p=4)with e | e
 ·rw[if_pos e]at hs
  obtain⟨h1,h2⟩:=k0 hs
  subst e
  match a,xs,h1,h2 with
  | [x,y],[],_,_=>exact .c4 x y
 rw[if_neg e]at hs
 clear e
 rcases Decidable.em (p=5)with e | e
 ·rw[if_pos e]at hs
  obtain⟨h1,h2⟩:=k0 hs
  subst e
  match a,xs,h1,h2 with
  | [x],[],_,_=>exact .c5 x
 rw[if_neg e]at hs
 clear e
 rcases Decidable.em (p=6)with e | e
 ·rw[if_pos e]at hs
  obtain⟨h1,h2⟩:=k0 hs
  subst e
  match a,xs,h1,h2 with
  | [x,y],[],_,_=>exact .c6 x y
 rw[if_neg e]at hs
 clear e
 rcases Decidable.em (p=7)with e | e
 ·rw[if_pos e]at hs
  obtain⟨h1,h2⟩:=k0 hs
  subst e
  match a,xs,h1,h2 with
  | [x],[],_,_=>exact .c7 x
 rw[if_neg e]at hs
 clear e
 rcases Decidable.em (p=8)with e | e
 ·rw[if_pos e]at hs
  obtain⟨h1,h2⟩:=k0 hs
  subst e
  match a,xs,h1,h2 with
  | [],[],_,_=>exact .c8
 rw[if_neg e]at hs
 clear e
 rcases Decidable.em (p=9)with e | e
 ·rw[if_pos e]at hs
  obtain⟨h1,h2⟩:=k0 hs
  subst e
  match a,xs,h1,h2 with
  | [x,y],[],_,_=>exact .c9 x y
 rw[if_neg e]at hs
 clear e
 rcases Decidable.em (p=10)with e | e
 ·rw[if_pos e]at hs
  obtain⟨h1,h2⟩:=k0 hs
  subst e
  match a,xs,h1,h2 with
  | [],[],_,_=>exact .c10
 rw[if_neg e]at hs
 clear e
 rcases Decidable.em (p=11)with e | e
 ·rw[if_pos e]at hs
  obtain⟨h1,h2⟩:=k0 hs
  subst e
  match a,xs,h1,h2 with
  | [],[],_,_=>exact .c11
 rw[if_neg e]at hs
 clear e
 rcases Decidable.em (p=12)with e | e
 ·rw[if_pos e]at hs
  obtain⟨h1,h2⟩:=k0 hs
  subst e
  match a,xs,h1,h2 with
  | [x],[],_,_=>exact .c12 x
 rw[if_neg e]at hs
 clear e
 rcases Decidable.em (p=13)with e | e
 ·rw[if_pos e]at hs
  obtain⟨h1,h2⟩:=k0 hs
  subst e
  match a,xs,h1,h2 with
  | [],[],_,_=>exact .c13
 rw[if_neg e]at hs
 clear e
 rcases Decidable.em (p=14)with e | e
 ·rw[if_pos e]at hs
  obtain⟨h1,h2⟩:=k0 hs
  subst e
  match a,xs,h1,h2 with
  | [x],[],_,_=>exact .c14 x
 rw[if_neg e]at hs
 clear e
 rcases Decidable.em (p=15)with e | e
 ·rw[if_pos e]at hs
  obtain⟨h1,h2⟩:=k0 hs
  subst e
  match a,xs,h1,h2 with
  | [],[],_,_=>exact .c15
 rw[if_neg e]at hs
 clear e
 cases hs
theorem whole_id{c:List (List Int)}(h:Shaped c):PyVbhoae.whole c=c:=by
 cases h<;>rfl
structure Asked(l:List Int)(cs:List (List (List Int))):Prop where
 put:l=PyFlat.put cs
 ok: ∀c∈cs,PyFlat.okCall PyVbhoae.shape c
 ans:PyVbhoae.answers l=PyFlat.told (PyFlat.played VbhoaeNeutral.step VbhoaeNeutral.start cs)
 few:cs.length≤400
 rows: ∀c∈cs,VbhoaeNeutral.asked1 c=true
theorem asked_of{l:List Int}(h:PyVbhoae.answers_asked l=true): ∃cs,Asked l cs:=by
 unfold PyVbhoae.answers_asked at h
 cases e:PyVbhoae.calls l with
 | none=>rw[e]at h;cases h
 | some cs=>
  rw[e]at h
  simp only[Bool.and_eq_true]at h
  obtain⟨h1,h2⟩:=h
  have h0:=e
  unfold PyVbhoae.calls at e
  cases e2:PyFlat.calls PyVbhoae.shape l.length l with
  | none=>rw[e2]at e;cases e
  | some ds=>
   rw[e2]at e
   have e3:ds.map PyVbhoae.whole=cs:=Option.some.inj e
   obtain⟨p1,p2⟩:=PyFlat.put_calls _ _ _ e2
   have e4:ds=cs:=by
    rw[←e3]
    have:ds.map PyVbhoae.whole=ds.map id:=List.map_congr_left fun c hc=>whole_id (shaped_of (p2 c hc))
    rw[this,List.map_id]
   subst e4
   refine⟨ds,p1,p2,?_,of_decide_eq_true h1,?_⟩
   ·unfold PyVbhoae.answers
    rw[h0]
   ·unfold VbhoaeNeutral.asked at h2
    simp only[Bool.and_eq_true,List.all_eq_true]at h2
    exact h2.1
def rangesOf(p:Int):List (Int×Int):=
 if p=0 then [(0,3),(0,60)]else if p=1 then [(1,80),(0,100000),(1,600)]else if p=2 then [(1,60)]else if p=3 then [(1,60)]
 else if p=4 then [(1,80),(1,600)]else if p=5 then [(1,60)]else if p=6 then [(1,60),(1,600)]else if p=7 then [(1,1000)]
 else if p=9 then [(1,80),(1,600)]else if p=12 then [(1,80)]else if p=14 then [(1,60)]else []
def inRg(n:Int)(lim:Int×Int):Bool:=decide (lim.1≤n)&&decide (n≤lim.2)
def rowOk(l:List Int):Bool:=decide (l.length≤8)&&l.all fun x=>decide (1≤x)&&decide (x≤10)
def inRange(p:Int)(a:List Int)(xs:List (List Int)):Bool:=((a.zip (rangesOf p)).all fun x=>inRg x.1 x.2)&&xs.all rowOk
theorem rowOk_eq(l:List Int):isRow l=rowOk l:=rfl
def callOf:List (List Int)→Call
 | (p::a)::xs=>
  let n:=(a.getD 0 0).toNat
  let m:=(a.getD 1 0).toNat
  if p=0 then .opens n m (xs.getD 0 []) (xs.getD 1 []) (xs.getD 2 [])else if p=1 then .book n m (a.getD 2 0).toNat else if p=2 then .cancel n else if p=3 then .arrive n else if p=4 then .walkin n m else if p=5 then .leave n
  else if p=6 then .stay n m else if p=7 then .pass n else if p=8 then .plan else if p=9 then .quote n m else if p=10 then .trouble else if p=11 then .tellOff else if p=12 then .free n else if p=13 then .tables else if p=14 then .party n else .state
 | _=> .state
theorem decode_eq {p : Int} {a : List Int} {xs : List (List Int)} (h : Shaped ((p :: a) :: xs)) : decode ((p :: a) :: xs) = if inRange p a xs = true then some (callOf ((p :: a) :: xs)) else none := by
  cases h
  all_goals first
    | (refine Eq.trans (show decode _ = Vbhoae.guard _ _ from rfl) (congrArg (fun b : Bool => if b = true then some _ else none) ?_)
       simp [inRange, inRg, rangesOf, isSize, isLen, isParty, inside, rowOk_eq, Bool.and_assoc]
       done)
    | rfl
theorem inR_of{p:Int}{a:List Int}{xs:List (List Int)}(h:Shaped ((p::a)::xs))(hr:inRange p a xs=true):InR (callOf ((p::a)::xs)):=by
 cases h<;>simp[inRange,inRg,rangesOf,rowOk,callOf,InR]at hr ⊢
 case c0 l c r s t=>
  refine⟨by omega,by omega,fun x hx=>?_,fun x hx=>?_,fun x hx=>?_⟩
  ·exact hr.2.1.2 x hx
  ·exact hr.2.2.1.2 x hx
  ·exact hr.2.2.2.2 x hx
 all_goals omega
theorem stepNumbers_eq{s:State}{p:Int}{a:List Int}{xs:List (List Int)}(h:Shaped ((p::a)::xs)):stepNumbers s ((p::a)::xs)=if inRange p a xs=true then step s (callOf ((p::a)::xs))else(s,[-1]):=by
 unfold stepNumbers
 rw[decode_eq h]
 cases inRange p a xs<;>rfl
theorem step_good{s:State}(G:Good s){c:Call}(hr:InR c):Good (step s c).1:=by
 unfold step
 split
 ·exact G
 ·rename_i ho
  cases e:does s c with
  | error x=>exact G
  | ok y=>
   obtain⟨t,l⟩:=y
   refine does_good G ?_ hr e
   cases h1:s.opened with
   | true=>exact .inl rfl
   | false=>
    cases h2:isOpens c with
    | true=>exact .inr rfl
    | false=>exact absurd ⟨h1,h2⟩ ho
theorem stepNumbers_good{s:State}(G:Good s){p:Int}{a:List Int}{xs:List (List Int)}(h:Shaped ((p::a)::xs)):Good (stepNumbers s ((p::a)::xs)).1:=by
 rw[stepNumbers_eq h]
 split
 ·rename_i hr
  exact step_good G (inR_of h hr)
 ·exact G
theorem firstOf_find{α β:Type}{f:α→Option β}: ∀(l:List α),firstOf f l=(l.find? fun x=>(f x).isSome).bind f
 | []=>rfl
 | x::r=>by
  rw[firstOf,List.find?_cons]
  cases e:f x with
  | some y=>simp[e]
  | none=>simp[firstOf_find r]
theorem seating_cons(r:Room)(l:List Use)(w:Wish)(rest:List Wish):seating r l (w::rest)=
  (((choices r w.size).filter fun b=>fits l ⟨b,w.from_,w.to_⟩).find? fun b=>canSeat r (⟨b,w.from_,w.to_⟩::l) rest).bind fun b=>(seating r (⟨b,w.from_,w.to_⟩::l) rest).map fun t=>b::t:=by
 rw[seating,firstOf_find]
 have e:(fun x=>(if fits l ⟨x,w.from_,w.to_⟩=true then(seating r (⟨x,w.from_,w.to_⟩::l) rest).map fun t=>x::t else none).isSome)=fun x=>fits l ⟨x,w.from_,w.to_⟩&&canSeat r (⟨x,w.from_,w.to_⟩::l) rest:=by
  funext x
  unfold canSeat
  cases fits l ⟨x,w.from_,w.to_⟩<;>simp
 rw[e,find_filter]
 cases h:((choices r w.size).filter fun b=>fits l ⟨b,w.from_,w.to_⟩).find? fun b=>canSeat r (⟨b,w.from_,w.to_⟩::l) rest with
 | none=>rfl
 | some b=>
  have hb:=(List.mem_filter.mp (List.mem_of_find?_eq_some h)).2
  simp only[Option.bind_some,hb,if_true]
theorem free_eq{s:State}(G:Good s)(n:Nat):(choices s.room n).filter (fun b=>fits (used s) ⟨b,s.now,s.now+1⟩)=openBlocks s n s.now:=(openBlocks_fits G (by omega)).symm
theorem mem_putTime{x y:Nat}: ∀{l:List Nat},y∈putTime x l↔y=x∨y∈l
 | []=>by simp[putTime]
 | a::l=>by
  unfold putTime
  split
  ·simp
  ·split
   ·rename_i h
    subst h
    simp only[List.mem_cons]
    constructor
    ·exact fun q=> .inr q
    ·rintro(q | q)
     ·exact .inl q
     ·exact q
   ·simp only[List.mem_cons,mem_putTime (l:=l)]
    constructor
    ·rintro(q | q | q)
     ·exact .inr (.inl q)
     ·exact .inl q
     ·exact .inr (.inr q)
    ·rintro(q | q | q)
     ·exact .inr (.inl q)
     ·exact .inl q
     ·exact .inr (.inr q)
theorem mem_moments{s:State}{t:Nat}:t∈moments s↔t=s.now∨(s.now<t∧t∈ends s):=by
 unfold moments
 have key: ∀l:List Nat,t∈l.foldr putTime [s.now]↔t=s.now∨t∈l:=by
  intro l
  induction l with
  | nil=>simp
  | cons a l ih=>
   rw[List.foldr_cons,mem_putTime,ih,List.mem_cons]
   constructor
   ·rintro(q | q | q)
    ·exact .inr (.inl q)
    ·exact .inl q
    ·exact .inr (.inr q)
   ·rintro(q | q | q)
    ·exact .inr (.inl q)
    ·exact .inl q
    ·exact .inr (.inr q)
 rw[key,List.mem_filter,decide_eq_true_eq]
 constructor
 ·rintro(q | q)
  ·exact .inl q
  ·exact .inr ⟨q.2,q.1⟩
 ·rintro(q | q)
  ·exact .inl q
  ·exact .inr ⟨q.2,q.1⟩
theorem putTime_sorted{x:Nat}: ∀{l:List Nat},l.Pairwise (· < ·)→(putTime x l).Pairwise (· < ·)
 | [],_=>List.pairwise_singleton ..
 | a::l,h=>by
  obtain⟨h1,h2⟩:=List.pairwise_cons.mp h
  unfold putTime
  split
  ·rename_i q
   refine List.pairwise_cons.mpr ⟨fun y hy=>?_,h⟩
   rcases List.mem_cons.mp hy with e | m
   ·rw[e];exact q
   ·exact Nat.lt_trans q (h1 y m)
  ·split
   ·exact h
   ·refine List.pairwise_cons.mpr ⟨fun y hy=>?_,putTime_sorted h2⟩
    rcases mem_putTime.mp hy with e | m
    ·omega
    ·exact h1 y m
theorem moments_sorted(s:State):(moments s).Pairwise (· < ·):=by
 unfold moments
 generalize (ends s).filter (fun t=>decide (s.now<t))=l
 induction l with
 | nil=>exact List.pairwise_singleton ..
 | cons a l ih=>exact putTime_sorted ih
abbrev newP(n t len:Nat):Party:=⟨n,t,t+len,0,⟨0,0,0⟩⟩
theorem ends_mem{s:State}{p:Party}(hp:p∈s.parties)(hs:p.stage≤2):p.to_+s.clearing∈ends s:=List.mem_map.mpr ⟨p,List.mem_filter.mpr ⟨hp,decide_eq_true hs⟩,rfl⟩
theorem moments_ge{s:State}{t:Nat}(h:t∈moments s):s.now≤t:=by
 rcases mem_moments.mp h with e | ⟨e,_⟩
 ·rw[e];exact Nat.le_refl _
 ·exact Nat.le_of_lt e
theorem first_at{α:Type}{p:α→Bool}: ∀{l:List α} {i:Nat} {b:α},l[i]? =some b→p b=true→(∀j c,j<i→l[j]? =some c→ ¬p c=true)→l.find? p=some b
 | [],i,b,h,_,_=>by cases i<;>cases h
 | x::l,0,b,h,hb,_=>by
  cases h
  exact List.find?_cons_of_pos hb
 | x::l,i+1,b,h,hb,hn=>by
  rw[List.find?_cons_of_neg (hn 0 x (Nat.succ_pos _) rfl)]
  exact first_at (i:=i) h hb fun j c hj hc=>hn (j+1) c (Nat.succ_lt_succ hj) hc
inductive Told:List Wn→List Nat→Prop
 | nil:Told [] []
 | cons {w:Wn} {r:List Wn} {c i:Nat} {ts:List Nat} (hc:w.ch[i]? =some c) (hg:Giv (beside r w.st w.en c)) (hn: ∀j d,j<i→w.ch[j]? =some d→ ¬Giv (beside r w.st w.en d)) (ht:Told (beside r w.st w.en c) ts):Told (w::r) (c::ts)
theorem told_seating{r:Room}: ∀(ws:List Wish) (l:List Use) (ts:List Nat),Told (ws.map (wn r l)) ts→ ∃bs,seating r l ws=some bs∧ts=bs.map (mask r)∧ ∀b∈bs,b∈blocks r
 | [],l,ts,h=>by
  cases h
  exact⟨[],by rw[seating],rfl,by simp⟩
 | w::rest,l,ts,h=>by
  rw[List.map_cons]at h
  cases h with
  | @cons _ _ c i ts' hc hg hn ht=>
   have hch:(wn r l w).ch =((choices r w.size).filter fun b=>fits l ⟨b,w.from_,w.to_⟩).map (mask r):=rfl
   rw[hch,List.getElem?_map]at hc
   obtain⟨b,hb,rfl⟩:=Option.map_eq_some_iff.mp hc
   have mem: ∀(j:Nat) (d:Block),((choices r w.size).filter fun b=>fits l ⟨b,w.from_,w.to_⟩)[j]? =some d→d∈blocks r:=fun j d hd=>
    (List.mem_filter.mp (List.mem_filter.mp (List.mem_of_getElem? hd)).1).1
   have key: ∀d,d∈blocks r→(canSeat r (⟨d,w.from_,w.to_⟩::l) rest=true↔Giv (beside (rest.map (wn r l)) (wn r l w).st (wn r l w).en (mask r d))):=by
    intro d hd
    rw[canSeat_giv]
    have:=wns_used (r:=r) (l:=l) (u:=⟨d,w.from_,w.to_⟩) (mem_blocks hd) rest
    rw[←this]
    exact Iff.rfl
   have hf:((choices r w.size).filter fun b=>fits l ⟨b,w.from_,w.to_⟩).find? (fun b=>canSeat r (⟨b,w.from_,w.to_⟩::l) rest)=some b:=by
    refine first_at hb ((key b (mem _ _ hb)).mpr hg) fun j d hj hd q=>?_
    refine hn j (mask r d) hj ?_ ((key d (mem _ _ hd)).mp q)
    rw[hch,List.getElem?_map,hd]
    rfl
   have e:=wns_used (r:=r) (l:=l) (u:=⟨b,w.from_,w.to_⟩) (mem_blocks (mem _ _ hb)) rest
   have ht':Told (rest.map (wn r (⟨b,w.from_,w.to_⟩::l))) ts':=by
    rw[←e]
    exact ht
   obtain⟨bs,h1,h2,h3⟩:=told_seating rest _ _ ht'
   refine⟨b::bs,?_,?_,?_⟩
   ·rw[seating_cons,hf]
    show Option.map _ _=_
    rw[h1]
    rfl
   ·rw[List.map_cons,h2]
   ·intro x hx
    rcases List.mem_cons.mp hx with rfl | hx
    ·exact mem _ _ hb
    ·exact h3 x hx
theorem mask_inj{r:Room}{b c:Block}(hb:InRoom r b)(hc:InRoom r c)(h:mask r b=mask r c):b=c:=by
 have hb':=hb
 have hc':=hc
 obtain⟨b1,b2,b3,b4,b5⟩:=hb
 obtain⟨c1,c2,c3,c4,c5⟩:=hc
 have tb: ∀j,(decide (offs r.rows b.row+b.first-1≤j)&&decide (j<offs r.rows b.row+b.first-1+(b.last+1-b.first)))=(decide (offs r.rows c.row+c.first-1≤j)&&decide (j<offs r.rows c.row+c.first-1+(c.last+1-c.first))):=by
  intro j
  rw[←test_mask,←test_mask]
  exact congrArg (fun x=>Nat.testBit x j) h
 have e1:=tb (offs r.rows b.row+b.first-1)
 have e2:=tb (offs r.rows c.row+c.first-1)
 have e3:=tb (offs r.rows b.row+b.first-1+(b.last+1-b.first)-1)
 have e4:=tb (offs r.rows c.row+c.first-1+(c.last+1-c.first)-1)
 rw[Bool.eq_iff_iff]at e1 e2 e3 e4
 simp only[Bool.and_eq_true,decide_eq_true_eq]at e1 e2 e3 e4
 have hm:meets b c=true:=by
  cases hm:meets b c with
  | true=>rfl
  | false=>
   have:=(mask_meets hb' hc').mpr hm
   rw[←h,and_zero]at this
   exact absurd (show(mask r b).testBit (offs r.rows b.row+b.first-1)=true by
    unfold mask
    rw[test_mask]
    simp only[Bool.and_eq_true,decide_eq_true_eq]
    omega) fun q=>this _ ⟨q,q⟩
 have hrow:b.row=c.row:=by
  unfold meets at hm
  simp only[Bool.and_eq_true,beq_iff_eq]at hm
  exact hm.1
 obtain⟨br,bf,bl⟩:=b
 obtain⟨cr,cf,cl⟩:=c
 simp only at *
 subst hrow
 have:bf=cf:=by omega
 subst this
 have:bl=cl:=by omega
 subst this
 rfl
theorem blocks_with{r:Room}{b:Block}(hb:b∈blocks r):((blocks r).filter fun c=>decide (mask r c=mask r b)).head? =some b:=by
 have hall: ∀c∈(blocks r).filter (fun c=>decide (mask r c=mask r b)),c=b:=fun c hc=>by
  have h:=List.mem_filter.mp hc
  exact mask_inj (mem_blocks h.1) (mem_blocks hb) (of_decide_eq_true h.2)
 cases e:(blocks r).filter fun c=>decide (mask r c=mask r b)with
 | nil=>
  have:b∈(blocks r).filter fun c=>decide (mask r c=mask r b):=List.mem_filter.mpr ⟨hb,decide_eq_true rfl⟩
  rw[e]at this
  cases this
 | cons c l=>
  rw[e]at hall
  rw[hall c (List.mem_cons_self ..)]
  rfl
theorem insertBy_sorted{x:Nat×Party}: ∀{l:List (Nat×Party)},l.Pairwise (fun a b=>a.2.from_≤b.2.from_)→(insertBy x l).Pairwise (fun a b=>a.2.from_≤b.2.from_)
 | [],_=>by simp[insertBy]
 | y::l,h=>by
  rw[insertBy]
  split
  ·rename_i c
   refine List.pairwise_cons.mpr ⟨fun z hz=>?_,h⟩
   rcases List.mem_cons.mp hz with rfl | hz
   ·omega
   ·have:=(List.pairwise_cons.mp h).1 z hz
    omega
  ·rename_i c
   refine List.pairwise_cons.mpr ⟨fun z hz=>?_,insertBy_sorted (List.pairwise_cons.mp h).2⟩
   rcases List.mem_cons.mp ((insertBy_perm x l).mem_iff.mp hz)with rfl | hz
   ·omega
   ·exact(List.pairwise_cons.mp h).1 z hz
theorem insertBy_key{x:Nat×Party}{c:Nat}: ∀{l:List (Nat×Party)},(∀y∈l,x.1<y.1)→(insertBy x l).filter (fun y=>y.2.from_==c)=(x::l).filter (fun y=>y.2.from_==c)
 | [],_=>rfl
 | y::l,h=>by
  rw[insertBy]
  split
  ·rfl
  ·rename_i q
   have hy:=h y (List.mem_cons_self ..)
   rw[List.filter_cons,insertBy_key fun z hz=>h z (List.mem_cons_of_mem _ hz)]
   by_cases e:y.2.from_=c
   ·have ex: ¬x.2.from_=c:=by omega
    simp[List.filter_cons,e,ex]
   ·simp[List.filter_cons,e]
theorem foldr_insertBy: ∀{l:List (Nat×Party)},l.Pairwise (fun a b=>a.1<b.1)→(l.foldr insertBy []).Pairwise (fun a b=>a.2.from_≤b.2.from_)∧ ∀c,(l.foldr insertBy []).filter (fun y=>y.2.from_==c)=l.filter (fun y=>y.2.from_==c)
 | [],_=>⟨.nil,fun _=>rfl⟩
 | x::l,h=>by
  obtain⟨h1,h2⟩:=List.pairwise_cons.mp h
  obtain⟨i1,i2⟩:=foldr_insertBy h2
  refine⟨insertBy_sorted i1,fun c=>?_⟩
  show(insertBy x (l.foldr insertBy [])).filter _=_
  rw[insertBy_key fun y hy=>h1 y ((foldr_insertBy_perm l).mem_iff.mp hy),List.filter_cons,List.filter_cons,i2]
theorem zipIdx_rising{α:Type}: ∀(l:List α) (k:Nat),(l.zipIdx k).Pairwise (fun a b=>a.2<b.2)
 | [],_=> .nil
 | x::l,k=>by
  rw[List.zipIdx_cons]
  refine List.pairwise_cons.mpr ⟨fun y hy=>?_,zipIdx_rising l (k+1)⟩
  have:=List.mem_zipIdx hy
  show k<y.2
  omega
theorem prom_rising(s:State):(prom s).Pairwise (fun a b=>a.2<b.2):=(zipIdx_rising s.parties 1).filter _
theorem promised_sorted{s:State}{l:List (Party×Nat)}(h1:l.Pairwise fun a b=>a.1.from_≤b.1.from_)(h2: ∀c,l.filter (fun x=>x.1.from_==c)=(prom s).filter (fun x=>x.1.from_==c)):promised s=l.map fun x=>(x.2,x.1):=by
 have hp:((prom s).map fun x=>(x.2,x.1)).Pairwise (fun a b:Nat×Party=>a.1<b.1):=by
  rw[List.pairwise_map]
  exact prom_rising s
 obtain⟨i1,i2⟩:=foldr_insertBy hp
 refine stable_unique (fun x:Nat×Party=>x.2.from_) (show(promised s).Pairwise _ from i1) ?_ fun c=>?_
 ·rw[List.pairwise_map]
  exact h1
 ·have e:=i2 c
  show List.filter _ (((prom s).map fun x=>(x.2,x.1)).foldr insertBy [])=_
  rw[e,List.filter_map,List.filter_map]
  exact congrArg _ (h2 c).symm
theorem find_rising{P:Nat→Bool}: ∀{a b:List Nat},a.Pairwise (· ≤ ·)→b.Pairwise (· ≤ ·)→(∀x,x∈a↔x∈b)→a.find? P=b.find? P:=by
 have one: ∀{a:List Nat} {x:Nat},a.Pairwise (· ≤ ·)→(a.find? P=some x↔(x∈a∧P x=true∧ ∀y∈a,P y=true→x≤y)):=by
  intro a
  induction a with
  | nil=>intro x _;simp
  | cons z a ih=>
   intro x h
   obtain⟨h1,h2⟩:=List.pairwise_cons.mp h
   rw[List.find?_cons]
   cases e:P z with
   | true=>
    constructor
    ·intro q
     cases q
     refine⟨List.mem_cons_self ..,e,fun y hy _=>?_⟩
     rcases List.mem_cons.mp hy with rfl | hy
     ·exact Nat.le_refl _
     ·exact h1 y hy
    ·rintro⟨q1,q2,q3⟩
     have:=q3 z (List.mem_cons_self ..) e
     rcases List.mem_cons.mp q1 with rfl | q1
     ·rfl
     ·have:=h1 x q1
      have:z=x:=by omega
      rw[this]
   | false=>
    rw[ih h2]
    constructor
    ·rintro⟨q1,q2,q3⟩
     refine⟨List.mem_cons_of_mem _ q1,q2,fun y hy hp=>?_⟩
     rcases List.mem_cons.mp hy with rfl | hy
     ·rw[e]at hp;cases hp
     ·exact q3 y hy hp
    ·rintro⟨q1,q2,q3⟩
     rcases List.mem_cons.mp q1 with rfl | q1
     ·rw[e]at q2;cases q2
     ·exact⟨q1,q2,fun y hy hp=>q3 y (List.mem_cons_of_mem _ hy) hp⟩
 intro a b ha hb hm
 refine Option.ext fun x=>?_
 rw[one ha,one hb,hm]
 simp only[hm]
theorem quote_find(s:State)(n len:Nat){ms:List Nat}{P:Nat→Bool}(h1:ms.Pairwise (· ≤ ·))(h2: ∀x,x∈ms↔x∈moments s)(hP: ∀x∈ms,P x=sound (withParty s (newP n x len))):
  quoteOf s n len=(ms.find? P).bind fun t=>if t≤TIME then some t else none:=by
 unfold quoteOf
 have hs:(moments s).Pairwise (· ≤ ·):=(moments_sorted s).imp fun h=>Nat.le_of_lt h
 rw[find_rising hs h1 fun x=>(h2 x).symm]
 have gen: ∀{l:List Nat},l.Pairwise (· ≤ ·)→(∀x∈l,P x=sound (withParty s (newP n x len)))→
   (l.find? fun t=>decide (t≤TIME)&&sound (withParty s ⟨n,t,t+len,0,⟨0,0,0⟩⟩))=(l.find? P).bind fun t=>if t≤TIME then some t else none:=by
  intro l
  induction l with
  | nil=>intro _ _;rfl
  | cons x l ih=>
   intro h1 h2
   obtain⟨g1,g2⟩:=List.pairwise_cons.mp h1
   have hx:=h2 x (List.mem_cons_self ..)
   rw[List.find?_cons,List.find?_cons]
   show(match decide (x≤TIME)&&sound (withParty s (newP n x len))with | true=>_ | false=>_)=_
   rw[←hx]
   cases e:P x with
   | false=>
    rw[Bool.and_false]
    exact ih g2 fun y hy=>h2 y (List.mem_cons_of_mem _ hy)
   | true=>
    rw[Bool.and_true]
    by_cases ht:x≤TIME
    ·rw[decide_eq_true ht]
     simp[ht]
    ·rw[decide_eq_false ht]
     show List.find? _ l=(if x≤TIME then some x else none)
     rw[if_neg ht]
     refine List.find?_eq_none.mpr fun y hy=>?_
     have:=g1 y hy
     have: ¬y≤TIME:=by omega
     simp[this]
 exact gen h1 hP
theorem ends_now{s:State}(G:Good s){t:Nat}:t∈moments s↔t=s.now∨ ∃p∈s.parties,t=p.to_+s.clearing∧(((p.stage=1∨p.stage=2)∧s.now<p.to_+s.clearing)∨p.stage=0):=by
 rw[mem_moments]
 constructor
 ·rintro(h | ⟨h,q⟩)
  ·exact .inl h
  ·obtain⟨p,hp,rfl⟩:=List.mem_map.mp q
   obtain⟨hp,h2⟩:=List.mem_filter.mp hp
   have h2:=of_decide_eq_true h2
   refine .inr ⟨p,hp,rfl,?_⟩
   by_cases h0:p.stage=0
   ·exact .inr h0
   ·exact .inl ⟨by omega,h⟩
 ·rintro(h | ⟨p,hp,rfl,h⟩)
  ·exact .inl h
  ·refine .inr ?_
   have g:=G.pty p hp
   rcases h with ⟨h1,h2⟩ | h0
   ·exact⟨h2,ends_mem hp (by omega)⟩
   ·have:=(g.wait h0).1
    exact⟨by omega,ends_mem hp (by omega)⟩
theorem find_congr{α:Type}{p q:α→Bool}: ∀{l:List α},(∀x∈l,p x=q x)→l.find? p=l.find? q
 | [],_=>rfl
 | x::l,h=>by
  rw[List.find?_cons,List.find?_cons,h x (List.mem_cons_self ..),find_congr fun y hy=>h y (List.mem_cons_of_mem _ hy)]
def usesNow(s:State)(m:Nat)(x:Party×Nat):Bool:=decide ((x.1.stage=1∨x.1.stage=2)∧m<x.1.to_+s.clearing)
def users(s:State)(m:Nat):List (Party×Nat):=(s.parties.zipIdx 1).filter (usesNow s m)
def onPlace(s:State)(place:Nat)(x:Party×Nat):Bool:=decide (mask s.room x.1.block &&& 2 ^ place≠0)
def tellUser(s:State):Option (Party×Nat)→List Int
 | some x=>[nat x.2,nat (x.1.to_+s.clearing)]
 | none=>[0,0]
theorem zip_mem{α:Type}{l:List α}{k:Nat}{x:α×Nat}(h:x∈l.zipIdx k):x.1∈l:=by
 have:=List.mem_map_of_mem (f:=Prod.fst) h
 rwa [zipIdx_fst]at this
theorem atTable_eq{s:State}(G:Good s){row i:Nat}(h1:1≤row)(h2:row≤s.room.rows.length)(hi:i<(rowOf s.room row).length):
  atTable s row (i+1)=tellUser s ((users s s.now).find? (onPlace s (offs s.room.rows row+i))):=by
 have hc:InRoom s.room ⟨row,i+1,i+1⟩:=⟨h1,h2,by show 1≤i+1;omega,Nat.le_refl _,hi⟩
 have hm:mask s.room ⟨row,i+1,i+1⟩=2 ^ (offs s.room.rows row+i):=by
  show(2 ^ (i+1+1-(i+1))-1)*2 ^ (offs s.room.rows row+(i+1)-1)=_
  have e1:i+1+1-(i+1)=1:=by omega
  have e2:offs s.room.rows row+(i+1)-1=offs s.room.rows row+i:=by omega
  rw[e1,e2]
  simp
 unfold atTable users
 rw[←find_filter]
 have e:(s.parties.zipIdx 1).find? (fun x=>decide (x.1.stage=1∨(x.1.stage=2∧s.now<x.1.to_+s.clearing))&&meets x.1.block ⟨row,i+1,i+1⟩)=
   (s.parties.zipIdx 1).find? (fun x=>usesNow s s.now x&&onPlace s (offs s.room.rows row+i) x):=by
  refine find_congr fun x hx=>?_
  have g:=G.pty x.1 (zip_mem hx)
  unfold usesNow onPlace
  rw[Bool.eq_iff_iff]
  simp only[Bool.and_eq_true,decide_eq_true_eq]
  constructor
  ·rintro⟨q1,q2⟩
   have hs:x.1.stage=1∨x.1.stage=2:=by omega
   refine⟨⟨hs,?_⟩,?_⟩
   ·rcases q1 with q | q
    ·have:=g.at1 q
     omega
    ·exact q.2
   ·intro q
    rw[←hm]at q
    rw[(mask_meets (g.use hs).2 hc).mp q]at q2
    cases q2
  ·rintro⟨⟨q1,q2⟩,q3⟩
   refine⟨by omega,?_⟩
   cases e:meets x.1.block ⟨row,i+1,i+1⟩with
   | true=>rfl
   | false=>
    exfalso
    apply q3
    rw[←hm]
    exact(mask_meets (g.use q1).2 hc).mpr e
 rw[e]
 cases (s.parties.zipIdx 1).find? (fun x=>usesNow s s.now x&&onPlace s (offs s.room.rows row+i) x)<;>rfl
theorem flat_rows{F:Nat→List Int}: ∀(rows pre:List (List Nat)),(rows.zipIdx (pre.length+1)).flatMap (fun x=>(List.range x.1.length).flatMap fun i=>F (offs (pre++rows) x.2+i))=(List.range' (pre.map List.length).sum (rows.map List.length).sum).flatMap F
 | [],pre=>rfl
 | r::rows,pre=>by
  have ih:=flat_rows (F:=F) rows (pre++[r])
  rw[List.length_append,List.append_assoc]at ih
  rw[List.zipIdx_cons,List.flatMap_cons]
  have e1:offs (pre++r::rows) (pre.length+1)=(pre.map List.length).sum :=by
   unfold offs
   rw[Nat.add_sub_cancel,List.take_left]
  have ih':((rows.zipIdx (pre.length+1+1)).flatMap fun x=>(List.range x.1.length).flatMap fun i=>F (offs (pre++r::rows) x.2+i))=(List.range' ((pre++[r]).map List.length).sum (rows.map List.length).sum).flatMap F:=ih
  rw[ih']
  show((List.range r.length).flatMap fun i=>F (offs (pre++r::rows) (pre.length+1)+i))++_=_
  rw[e1,List.map_cons,List.sum_cons,List.map_append,List.sum_append,List.range'_append.symm,List.flatMap_append]
  congr 1
  ·rw[List.range'_eq_map_range,List.flatMap_map]
  ·simp
theorem tables_eq{s:State}(G:Good s):((s.room.rows.zipIdx 1).flatMap fun x=>(List.range x.1.length).flatMap fun i=>atTable s x.2 (i+1))=
  (List.range (s.room.rows.map List.length).sum).flatMap fun place=>tellUser s ((users s s.now).find? (onPlace s place)):=by
 have h:=flat_rows (F:=fun place=>tellUser s ((users s s.now).find? (onPlace s place))) s.room.rows []
 rw[List.range_eq_range']
 refine Eq.trans ?_ h
 show _=(s.room.rows.zipIdx 1).flatMap (fun x=>(List.range x.1.length).flatMap fun i=>tellUser s ((users s s.now).find? (onPlace s (offs s.room.rows x.2+i))))
 have cg: ∀{α β:Type} {f g:α→List β} {l:List α},(∀x∈l,f x=g x)→l.flatMap f=l.flatMap g:=by
  intro α β f g l h
  induction l with
  | nil=>rfl
  | cons a l ih=>rw[List.flatMap_cons,List.flatMap_cons,h a (List.mem_cons_self ..),ih fun x hx=>h x (List.mem_cons_of_mem _ hx)]
 refine cg fun x hx=>cg fun i hi=>?_
 have hz:=List.mem_zipIdx hx
 have hr:rowOf s.room x.2=x.1:=by
  unfold rowOf
  rw[List.getElem?_eq_getElem (by omega:x.2-1<s.room.rows.length),←hz.2.2]
  rfl
 exact atTable_eq G hz.1 (by omega) (by rw[hr];exact List.mem_range.mp hi)
theorem without_nil(s:State):without s []=s:=by
 have:(s.parties.zipIdx 1).map (fun x=>if ([]:List Nat).contains x.2=true then{x.1 with stage:=5}else x.1)=s.parties:=by
  refine Eq.trans ?_ (zipIdx_fst s.parties 1)
  congr 1
 unfold without
 rw[this]
theorem without_snoc(s:State)(l:List Nat){n:Nat}(hn:1≤n):without s (l++[n])=setParty (without s l) n fun y=>{y with stage:=5}:=by
 have:(s.parties.zipIdx 1).map (fun x=>if (l++[n]).contains x.2=true then{x.1 with stage:=5}else x.1)=mapAt (fun y=>{y with stage:=5}) (n-1) ((s.parties.zipIdx 1).map (fun x=>if l.contains x.2=true then{x.1 with stage:=5}else x.1)):=by
  refine List.ext_getElem? fun j=>?_
  rw[mapAt_get,List.getElem?_map,List.getElem?_map,List.getElem?_zipIdx]
  cases e:s.parties[j]? with
  | none=>simp
  | some p=>
   simp only[Option.map_some]
   by_cases hj:j=n-1
   ·have:1+j=n:=by omega
    subst this
    rw[if_pos hj,if_pos (by simp)]
    split<;>rfl
   ·have hne:1+j≠n:=by omega
    rw[if_neg hj]
    have:(l++[n]).contains (1+j)=l.contains (1+j):=by
     simp[hne]
    rw[this]
 unfold without setParty
 simp only
 rw[this]
theorem trouble_at{s:State}(G:Good s){i:Nat}{places:List Nat}(h1:(placeLists (prom s).length)[i]? =some places)(h2:Giv (leaveOut ((prom s).map fun x=>wantOf s x.1) places))
  (h3: ∀j pl,j<i→(placeLists (prom s).length)[j]? =some pl→ ¬Giv (leaveOut ((prom s).map fun x=>wantOf s x.1) pl)):trouble s=places.map fun i=>((prom s).map Prod.snd).getD i 0:=by
 have hd:=fun pl=>Classical.propDecidable (Giv (leaveOut ((prom s).map fun x=>wantOf s x.1) pl))
 have key: ∀pl,(@decide _ (hd pl))=true↔Giv (leaveOut ((prom s).map fun x=>wantOf s x.1) pl):=fun pl=> @decide_eq_true_iff _ (hd pl)
 rw[trouble_eq s (fun pl=> @decide _ (hd pl)) fun pl _=>by rw[key,wants_eq G]]
 rw[first_at (p:=fun pl=> @decide _ (hd pl)) h1 ((key places).mpr h2) fun j c hj hc q=>h3 j c hj hc ((key c).mp q)]
 rfl
theorem promised_now{s:State}(G:Good s){l:List (Party×Nat)}(hl:promised s=l.map fun x=>(x.2,x.1)): ∀x∈l,s.now<x.1.to_:=by
 intro x hx
 have h1:(x.2,x.1)∈promised s:=by rw[hl];exact List.mem_map.mpr ⟨x,hx,rfl⟩
 have h2:=(promised_perm s).mem_iff.mp h1
 obtain⟨y,hy,e⟩:=List.mem_map.mp h2
 have e1:y=x:=by
  cases y
  cases x
  cases e
  rfl
 subst e1
 obtain⟨g1,g2⟩:=mem_prom hy
 exact((G.pty _ g1).wait g2).1
theorem wishes_by{s:State}{l:List (Party×Nat)}(hl:promised s=l.map fun x=>(x.2,x.1)):wishes s (promised s)=l.map fun x=>wishOf s x.1:=by
 unfold wishes
 rw[hl,List.map_map]
 rfl
theorem wants_by{s:State}(G:Good s){l:List (Party×Nat)}(hl:promised s=l.map fun x=>(x.2,x.1)):(wishes s (promised s)).map (wn s.room (used s))=l.map fun x=>wantOf s x.1:=by
 rw[wishes_by hl,List.map_map]
 exact List.map_congr_left fun x hx=>(wantOf_eq G (promised_now G hl x hx)).symm
theorem plan_at{s:State}(G:Good s){l:List (Party×Nat)}(hl:promised s=l.map fun x=>(x.2,x.1)){ts:List Nat}(h:Told (l.map fun x=>wantOf s x.1) ts):
  ∃bs,seating s.room (used s) (wishes s (promised s))=some bs∧ts=bs.map (mask s.room)∧ ∀b∈bs,b∈blocks s.room:=by
 rw[←wants_by G hl]at h
 exact told_seating _ _ _ h
theorem plan_no{s:State}(G:Good s){l:List (Party×Nat)}(hl:promised s=l.map fun x=>(x.2,x.1))(h: ¬Giv (l.map fun x=>wantOf s x.1)):seating s.room (used s) (wishes s (promised s))=none:=by
 rw[←wants_by G hl,←canSeat_giv]at h
 unfold canSeat at h
 cases e:seating s.room (used s) (wishes s (promised s))with
 | none=>rfl
 | some b=>rw[e]at h;exact absurd rfl h
theorem sound_prom{s:State}(G:Good s):sound s=true↔Giv ((prom s).map fun x=>wantOf s x.1):=by
 rw[sound_iff,wants_eq G]
theorem blocks_few{r:Room}(h:GoodR r):(blocks r).length ≤1000:=by
 obtain⟨a,b,c,e,_,hl⟩:=h.three
 unfold blocks
 rw[e]
 have one: ∀(l:List Nat) (k:Nat),l.length≤8→((List.range l.length).flatMap fun i=>(List.range (l.length-i)).map fun j=>(⟨k,i+1,i+j+1⟩:Block)).length ≤64:=by
  intro l k h
  rw[List.length_flatMap]
  have: ∀(L:List Nat) (f:Nat→Nat) (m:Nat),(∀x∈L,f x≤m)→(L.map f).sum ≤m*L.length:=by
   intro L f m hm
   induction L with
   | nil=>simp
   | cons x L ih=>
    rw[List.map_cons,List.sum_cons,List.length_cons,Nat.mul_succ]
    have h1:=hm x (List.mem_cons_self ..)
    have h2:=ih fun y hy=>hm y (List.mem_cons_of_mem _ hy)
    omega
  have q:=this (List.range l.length) (fun i=>((List.range (l.length-i)).map fun j=>(⟨k,i+1,i+j+1⟩:Block)).length) 8 (fun x _=>by
   rw[List.length_map,List.length_range]
   omega)
  rw[List.length_range]at q
  exact Nat.le_trans q (by omega)
 simp only[List.zipIdx_cons,List.zipIdx_nil,List.flatMap_cons,List.flatMap_nil,List.append_nil,List.length_append]
 have h1:=one a 1 (by omega)
 have h2:=one b (1+1) (by omega)
 have h3:=one c (1+1+1) (by omega)
 omega
theorem cancel_good{s:State}(G:Good s)(ho:s.opened=true){n:Nat}{x:Party}(hx:s.parties[n-1]? =some x)(hn:1≤n)(h0:x.stage=0):Good (setParty s n fun y=>{y with stage:=3}):=by
 refine does_good (c:= .cancel n) (l:=[]) G (.inl ho) True.intro ?_
 have:partyOf s n=some x:=by
  unfold partyOf
  rw[if_neg (by omega),hx]
 show(match partyOf s n with | none=>_ | some x=>_)=_
 rw[this]
 show(if x.stage≠0 then _ else _)=_
 rw[if_neg fun z=>z h0]
theorem arrive_table{s:State}(G:Good s)(ho:s.opened=true){n:Nat}{x:Party}(hn:1≤n)(hx:s.parties[n-1]? =some x)(h0:x.stage=0)(P:Block→Bool)
  (hP: ∀b,P b=true↔Giv (beside (((prom s).filter fun y=>decide (y.2≠n)).map fun y=>wantOf s y.1) s.now (x.to_+s.clearing) (mask s.room b))):
  table (setParty s n fun y=>{y with stage:=3}) x.size x.to_=(bySeats s.room (openBlocks s x.size s.now)).find? P:=by
 have G3:=cancel_good G ho hx hn h0
 have hu:used (setParty s n fun y=>{y with stage:=3})=used s:=used_set hx (by omega) (by show ¬((3:Nat)=1∨(3:Nat)=2);omega)
 have hob: ∀a m,openBlocks (setParty s n fun y=>{y with stage:=3}) a m=openBlocks s a m:=fun a m=>by
  unfold openBlocks
  rw[hu]
  rfl
 have hw: ∀p,wantOf (setParty s n fun y=>{y with stage:=3}) p=wantOf s p:=fun p=>by
  unfold wantOf
  rw[hob]
  rfl
 have hto:s.now<x.to_:=((G.pty x (List.mem_of_getElem? hx)).wait h0).1
 rw[table_find G3 (n:=x.size) (to_:=x.to_) hto P fun b _=>?_]
 ·rw[hob]
  rfl
 ·rw[hP,prom_set hn fun p=>by show(3:Nat)≠0;decide]
  simp only[hw]
  exact Iff.rfl
theorem trouble_len{s:State}(G:Good s){i:Nat}{places:List Nat}(h1:(placeLists (prom s).length)[i]? =some places)(h2:Giv (leaveOut ((prom s).map fun x=>wantOf s x.1) places))
  (h3: ∀j pl,j<i→(placeLists (prom s).length)[j]? =some pl→ ¬Giv (leaveOut ((prom s).map fun x=>wantOf s x.1) pl)):(trouble s).length =places.length:=by
 rw[trouble_at G h1 h2 h3,List.length_map]
theorem zip_has{l:List Party}{k:Nat}{p:Party}(h:p∈l): ∃y∈l.zipIdx k,y.1=p:=by
 have:p∈(l.zipIdx k).map Prod.fst:=by
  rw[zipIdx_fst]
  exact h
 obtain⟨y,h1,h2⟩:=List.mem_map.mp this
 exact⟨y,h1,h2⟩
theorem minute_iff{s:State}(G:Good s){x:Nat}:(x=s.now∨ ∃y∈users s s.now++prom s,x=y.1.to_+s.clearing)↔x∈moments s:=by
 rw[ends_now G]
 constructor
 ·rintro(h | ⟨y,hy,rfl⟩)
  ·exact .inl h
  ·refine .inr ⟨y.1,?_,rfl,?_⟩
   ·rcases List.mem_append.mp hy with hy | hy
    ·exact zip_mem (List.mem_filter.mp hy).1
    ·exact(mem_prom hy).1
   ·rcases List.mem_append.mp hy with hy | hy
    ·exact .inl (of_decide_eq_true (List.mem_filter.mp hy).2)
    ·exact .inr (mem_prom hy).2
 ·rintro(h | ⟨p,hp,rfl,h⟩)
  ·exact .inl h
  ·obtain⟨y,h1,rfl⟩:=zip_has (k:=1) hp
   refine .inr ⟨y,?_,rfl⟩
   rcases h with h | h
   ·exact List.mem_append_left _ (List.mem_filter.mpr ⟨h1,decide_eq_true h⟩)
   ·exact List.mem_append_right _ (List.mem_filter.mpr ⟨h1,decide_eq_true h⟩)
theorem quote_at{s:State}(G:Good s){n len:Nat}(hl:1≤len){ms:List Nat}{P:Nat→Bool}(h1:ms.Pairwise (· ≤ ·))(h2: ∀x,x∈ms↔(x=s.now∨ ∃y∈users s s.now++prom s,x=y.1.to_+s.clearing))
  (hP: ∀x,P x=true↔Giv (((prom s).map fun x=>wantOf s x.1)++[wantOf s (newP n x len)])):quoteOf s n len=(ms.find? P).bind fun t=>if t≤TIME then some t else none:=by
 refine quote_find s n len h1 (fun x=>(h2 x).trans (minute_iff G)) fun x hx=>?_
 have hge:s.now≤x:=moments_ge ((minute_iff G).mp ((h2 x).mp hx))
 rw[Bool.eq_iff_iff,hP,sound_iff,wants_add G (p:=newP n x len) rfl (by show s.now<x+len;omega)]
theorem flat_le{α:Type}(f:α→List Int)(n:Nat): ∀l:List α,(∀x∈l,(f x).length ≤n)→(l.flatMap f).length ≤n*l.length
 | [],_=>Nat.zero_le _
 | x::l,h=>by
  rw[List.flatMap_cons,List.length_append,List.length_cons,Nat.mul_succ]
  have h1:=h x (List.mem_cons_self ..)
  have h2:=flat_le f n l fun y hy=>h y (List.mem_cons_of_mem _ hy)
  omega
theorem trouble_few{s:State}(G:Good s):(trouble s).length ≤60:=by
 have hs:=trouble_sub s
 unfold trouble
 simp only
 cases e:firstOf (fun k=>(some_ k (((s.parties.zipIdx 1).filter fun x=>decide (x.1.stage=0)).map fun x=>x.2)).find? fun t=>sound (without s t)) (List.range ((((s.parties.zipIdx 1).filter fun x=>decide (x.1.stage=0)).map fun x=>x.2).length +1))with
 | none=>exact Nat.zero_le _
 | some t=>
  show t.length≤60
  have len: ∀(k:Nat) (l t:List Nat),t∈some_ k l→t.length≤l.length:=by
   intro k l
   induction l generalizing k with
   | nil=>
    intro t ht
    cases k with
    | zero=>simp[some_]at ht;simp[ht]
    | succ k=>simp[some_]at ht
   | cons a l ih=>
    intro t ht
    cases k with
    | zero=>simp[some_]at ht;simp[ht]
    | succ k=>
     rw[some_]at ht
     rcases List.mem_append.mp ht with ht | ht
     ·obtain⟨u,hu,rfl⟩:=List.mem_map.mp ht
      have:=ih k u hu
      simp
      omega
     ·have:=ih (k+1) t ht
      simp
      omega
  rw[firstOf_find]at e
  obtain⟨k,_,e2⟩:=Option.bind_eq_some_iff.mp e
  have h1:=len k _ t (List.mem_of_find?_eq_some e2)
  rw[List.length_map]at h1
  have h2:=List.length_filter_le (fun x:Party×Nat=>decide (x.1.stage=0)) (s.parties.zipIdx 1)
  rw[List.length_zipIdx]at h2
  have:=G.few
  omega
theorem row3(b:Block):(blockRow b).length =3:=rfl
theorem does_len{s t:State}{c:Call}{l:List Int}(G:Good s)(ho:s.opened=true∨isOpens c=true)(h:does s c= .ok (t,l)):l.length≤3500:=by
 cases c with
 | opens loss clearing a b c=>
  simp only[does]at h
  split at h
  ·cases h
  ·split at h
   ·cases h
   ·cases h
    exact Nat.zero_le _
 | book n t len=>
  simp only[does]at h
  split at h
  ·cases h
  ·split at h
   ·cases h
   ·split at h
    ·cases h
    ·split at h
     ·cases h
     ·cases h
      exact(by decide:1≤3500)
 | cancel p=>
  simp only[does]at h
  split at h
  ·cases h
  ·split at h
   ·cases h
   ·cases h
    exact Nat.zero_le _
 | arrive p=>
  simp only[does]at h
  split at h
  ·cases h
  ·split at h
   ·cases h
   ·split at h
    ·cases h
    ·cases h
     exact(by decide:3≤3500)
 | walkin n len=>
  simp only[does]at h
  split at h
  ·cases h
  ·split at h
   ·cases h
   ·cases h
    exact(by decide:4≤3500)
 | leave p=>
  simp only[does]at h
  split at h
  ·cases h
  ·split at h
   ·cases h
   ·cases h
    exact Nat.zero_le _
 | stay p m=>
  simp only[does]at h
  split at h
  ·cases h
  ·split at h
   ·cases h
   ·cases h
    exact(by decide:1≤3500)
 | pass m=>
  simp only[does]at h
  split at h
  ·cases h
  ·cases h
   exact(by decide:1≤3500)
 | plan=>
  simp only[does]at h
  split at h
  ·cases h
  ·cases h
   rename_i bs _
   have h1:=flat_le (fun x:(Nat×Party)×Block=>nat x.1.1::blockRow x.2) 4 ((promised s).zip bs) fun x _=>by
    rw[List.length_cons,row3]
    exact Nat.le_refl _
   rw[List.length_zip]at h1
   have h2:=(promised_perm s).length_eq
   rw[List.length_map]at h2
   have h3:=waiting_prom s
   have h4:=G.five
   rw[List.length_cons]
   omega
 | quote n len=>
  simp only[does]at h
  split at h
  ·cases h
  ·split at h
   ·cases h
    exact(by decide:1≤3500)
   ·cases h
    exact(by decide:2≤3500)
 | trouble=>
  simp only[does]at h
  cases h
  have:=trouble_few G
  rw[List.length_cons,List.length_map]
  omega
 | tellOff=>
  simp only[does]at h
  cases h
  have:=trouble_few G
  rw[List.length_cons,List.length_map]
  omega
 | free n=>
  simp only[does]at h
  cases h
  have hop:s.opened=true:=ho.elim id fun z=>by cases z
  have h1:=flat_le blockRow 3 ((choices s.room n).filter fun b=>fits (used s) ⟨b,s.now,s.now+1⟩) fun x _=>Nat.le_refl 3
  have h2:=List.length_filter_le (fun b=>fits (used s) ⟨b,s.now,s.now+1⟩) (choices s.room n)
  have h3:=List.length_filter_le (tight s.room n) (blocks s.room)
  have h4:=blocks_few (G.room hop)
  have h5:(choices s.room n).length ≤(blocks s.room).length :=h3
  rw[List.length_cons]
  omega
 | tables=>
  simp only[does]at h
  cases h
  have hop:s.opened=true:=ho.elim id fun z=>by cases z
  rw[tables_eq G]
  have h1:=flat_le (fun place=>tellUser s ((users s s.now).find? (onPlace s place))) 2 (List.range (s.room.rows.map List.length).sum) fun x _=>by
   cases (users s s.now).find? (onPlace s x)<;>exact Nat.le_refl 2
  rw[List.length_range]at h1
  obtain⟨a,b,c,e,_,hl⟩:=(G.room hop).three
  have h2:(s.room.rows.map List.length).sum ≤8:=by
   rw[e]
   simp
   omega
  omega
 | party p=>
  simp only[does]at h
  split at h
  ·cases h
  ·cases h
   exact(by decide:7≤3500)
 | state=>
  simp only[does]at h
  cases h
  have hop:s.opened=true:=ho.elim id fun z=>by cases z
  obtain⟨a,b,c,e,_,hl⟩:=(G.room hop).three
  rw[e]
  simp
  omega
theorem ans_len{s:State}(G:Good s)(c:Call):(step s c).2.length ≤3501:=by
 unfold step
 split
 ·exact(by decide:1≤3501)
 ·rename_i h
  have ho:s.opened=true∨isOpens c=true:=by
   cases h1:s.opened with
   | true=>exact .inl rfl
   | false=>
    cases h2:isOpens c with
    | true=>exact .inr rfl
    | false=>exact absurd ⟨h1,h2⟩ h
  cases e:does s c with
  | error e=>exact(by decide:1≤3501)
  | ok x=>
   obtain⟨t,l⟩:=x
   have:=does_len G ho e
   show(0::l).length ≤3501
   rw[List.length_cons]
   omega
end My
namespace My
open PySem PySem.Spec PyProof.Rows L2
open PySem.W (Codec)
def top(i:Nat):Stmt:=PySem.Challenge.pw_pushedtables_s01_answers.main.body.getD i (.Pass ⟨0,0,0,0⟩)
abbrev s_Call_init:Stmt:=inClass (top 5) 0
abbrev n_Call_init:List Str:=["self","number","numbers","rows","place_behind"]
abbrev s_read_call:Stmt:=top 6
abbrev n_read_call:List Str:=["calls","place","number","row_place","numbers","rows","row_end"]
abbrev s_is_row_in_range:Stmt:=top 7
abbrev n_is_row_in_range:List Str:=["row","seats"]
abbrev s_is_in_range:Stmt:=top 8
abbrev n_is_in_range:List Str:=["call","number","limits","row"]
abbrev s_Block_init:Stmt:=inClass (top 10) 0
abbrev n_Block_init:List Str:=["self","row","first","last","seats","seats_with_one_less","tables"]
abbrev s_seats_together:Stmt:=top 11
abbrev n_seats_together:List Str:=["tables","loss"]
abbrev s_block_of_row:Stmt:=top 12
abbrev n_block_of_row:List Str:=["number","row","first","last","loss","tables_before","tables","with_one_less","bits"]
abbrev s_blocks_of:Stmt:=top 13
abbrev n_blocks_of:List Str:=["rows","loss","blocks","tables_before","number","row","first","last"]
abbrev s_tight_blocks:Stmt:=top 14
abbrev n_tight_blocks:List Str:=["blocks","size","block"]
abbrev s_Want_init:Stmt:=inClass (top 16) 0
abbrev n_Want_init:List Str:=["self","start","end","choices"]
abbrev s_count_of_choices:Stmt:=top 17
abbrev n_count_of_choices:List Str:=["want"]
abbrev s_wants_beside:Stmt:=top 18
abbrev n_wants_beside:List Str:=["wants","start","end","tables","left","want","choices","choice"]
abbrev s_can_all_be_given:Stmt:=top 19
abbrev n_can_all_be_given:List Str:=["wants","ordered","want","tables"]
abbrev s_first_choice:Stmt:=top 20
abbrev n_first_choice:List Str:=["want","rest","tables"]
abbrev s_seating_told:Stmt:=top 21
abbrev n_seating_told:List Str:=["wants","given","left","want","tables"]
abbrev s_lists_of_places:Stmt:=top 22
abbrev n_lists_of_places:List Str:=["count","lists","place","places"]
abbrev s_without:Stmt:=top 23
abbrev n_without:List Str:=["wants","places","place","want"]
abbrev s_fewest_left_out:Stmt:=top 24
abbrev n_fewest_left_out:List Str:=["wants","lists","tried"]
abbrev s_seats_of:Stmt:=top 32
abbrev n_seats_of:List Str:=["block"]
abbrev s_time_from_of:Stmt:=top 33
abbrev n_time_from_of:List Str:=["party"]
abbrev s_Party_init:Stmt:=inClass (top 34) 0
abbrev n_Party_init:List Str:=["self","number","size","time_from","time_to","stage","block"]
abbrev s_House_init:Stmt:=inClass (top 35) 0
abbrev n_House_init:List Str:=["self"]
abbrev s_House_begin:Stmt:=inClass (top 35) 1
abbrev n_House_begin:List Str:=["self","loss","clearing","rows"]
abbrev s_House_party_of:Stmt:=inClass (top 35) 2
abbrev n_House_party_of:List Str:=["self","number"]
abbrev s_House_at_stage:Stmt:=inClass (top 35) 3
abbrev n_House_at_stage:List Str:=["self","stage","party"]
abbrev s_House_promised:Stmt:=inClass (top 35) 4
abbrev n_House_promised:List Str:=["self"]
abbrev s_House_promised_by_time:Stmt:=inClass (top 35) 5
abbrev n_House_promised_by_time:List Str:=["self"]
abbrev s_House_party_to_promise:Stmt:=inClass (top 35) 6
abbrev n_House_party_to_promise:List Str:=["self","size","time_from","minutes"]
abbrev s_House_end_of_use:Stmt:=inClass (top 35) 7
abbrev n_House_end_of_use:List Str:=["self","time_to"]
abbrev s_House_users_from:Stmt:=inClass (top 35) 8
abbrev n_House_users_from:List Str:=["self","minute","seated","party"]
abbrev s_House_used_from:Stmt:=inClass (top 35) 9
abbrev n_House_used_from:List Str:=["self","minute","tables","party"]
abbrev s_House_user_of_table:Stmt:=inClass (top 35) 10
abbrev n_House_user_of_table:List Str:=["self","place","party"]
abbrev s_House_unused_tight_blocks:Stmt:=inClass (top 35) 11
abbrev n_House_unused_tight_blocks:List Str:=["self","size","minute","used","block"]
abbrev s_House_want_of:Stmt:=inClass (top 35) 12
abbrev n_House_want_of:List Str:=["self","party","start","choices","block"]
abbrev s_House_wants_of:Stmt:=inClass (top 35) 13
abbrev n_House_wants_of:List Str:=["self","parties","party"]
abbrev s_House_can_keep:Stmt:=inClass (top 35) 14
abbrev n_House_can_keep:List Str:=["self","promised"]
abbrev s_House_block_now:Stmt:=inClass (top 35) 15
abbrev n_House_block_now:List Str:=["self","size","time_to","promised","wants","end","block"]
abbrev s_House_block_with:Stmt:=inClass (top 35) 16
abbrev n_House_block_with:List Str:=["self","tables","block"]
abbrev s_House_blocks_told:Stmt:=inClass (top 35) 17
abbrev n_House_blocks_told:List Str:=["self","parties","tables"]
abbrev s_House_minutes_to_try:Stmt:=inClass (top 35) 18
abbrev n_House_minutes_to_try:List Str:=["self","ends","party"]
abbrev s_House_earliest_promise:Stmt:=inClass (top 35) 19
abbrev n_House_earliest_promise:List Str:=["self","size","minutes","promised","minute"]
abbrev s_House_in_trouble:Stmt:=inClass (top 35) 20
abbrev n_House_in_trouble:List Str:=["self","promised","place"]
abbrev s_House_go_on:Stmt:=inClass (top 35) 21
abbrev n_House_go_on:List Str:=["self","minutes","party"]
abbrev s_block_told:Stmt:=top 42
abbrev n_block_told:List Str:=["block"]
abbrev s_parties_told:Stmt:=top 43
abbrev n_parties_told:List Str:=["parties","party"]
abbrev s_has_party:Stmt:=top 44
abbrev n_has_party:List Str:=["house","number"]
abbrev s_party_refusal:Stmt:=top 45
abbrev n_party_refusal:List Str:=["house","number","stage"]
abbrev s_count_of_tables:Stmt:=top 46
abbrev n_count_of_tables:List Str:=["rows","row"]
abbrev s_is_full:Stmt:=top 47
abbrev n_is_full:List Str:=["house"]
abbrev s_open_house:Stmt:=top 48
abbrev n_open_house:List Str:=["house","call"]
abbrev s_book:Stmt:=top 49
abbrev n_book:List Str:=["house","call","party","promised"]
abbrev s_cancel:Stmt:=top 50
abbrev n_cancel:List Str:=["house","call","refusal","party"]
abbrev s_arrive:Stmt:=top 51
abbrev n_arrive:List Str:=["house","call","refusal","party","others","block","other"]
abbrev s_walkin:Stmt:=top 52
abbrev n_walkin:List Str:=["house","call","size","time_to","block","party"]
abbrev s_leave:Stmt:=top 53
abbrev n_leave:List Str:=["house","call","refusal","party"]
abbrev s_stay:Stmt:=top 54
abbrev n_stay:List Str:=["house","call","refusal","party"]
abbrev s_pass_time:Stmt:=top 55
abbrev n_pass_time:List Str:=["house","call"]
abbrev s_plan:Stmt:=top 56
abbrev n_plan:List Str:=["house","call","parties","told","party","block"]
abbrev s_quote:Stmt:=top 57
abbrev n_quote:List Str:=["house","call","minute"]
abbrev s_trouble:Stmt:=top 58
abbrev n_trouble:List Str:=["house","call"]
abbrev s_tell_off:Stmt:=top 59
abbrev n_tell_off:List Str:=["house","call","parties","party"]
abbrev s_free_now:Stmt:=top 60
abbrev n_free_now:List Str:=["house","call","blocks","told","block"]
abbrev s_tables_now:Stmt:=top 61
abbrev n_tables_now:List Str:=["house","call","told","place","party"]
abbrev s_party_now:Stmt:=top 62
abbrev n_party_now:List Str:=["house","call","party","block"]
abbrev s_state_now:Stmt:=top 63
abbrev n_state_now:List Str:=["house","call","promised","told","row"]
abbrev s_answer:Stmt:=top 65
abbrev n_answer:List Str:=["house","call","answerer"]
abbrev s_answers:Stmt:=top 67
abbrev n_answers:List Str:=["calls","house","told","place","call","numbers"]
set_option genInjectivity false in
set_option genSizeOf false in
structure Adr where
 (c_Call c_Block c_Want c_Party c_House f_Call_init f_read_call f_is_row_in_range f_is_in_range f_Block_init f_seats_together f_block_of_row f_blocks_of f_tight_blocks f_Want_init f_count_of_choices f_wants_beside f_can_all_be_given f_first_choice f_seating_told f_lists_of_places f_without f_fewest_left_out f_seats_of f_time_from_of f_Party_init f_House_init f_House_begin f_House_party_of f_House_at_stage f_House_promised f_House_promised_by_time f_House_party_to_promise f_House_end_of_use f_House_users_from f_House_used_from f_House_user_of_table f_House_unused_tight_blocks f_House_want_of f_House_wants_of f_House_can_keep f_House_block_now f_House_block_with f_House_blocks_told f_House_minutes_to_try f_House_earliest_promise f_House_in_trouble f_House_go_on f_block_told f_parties_told f_has_party f_party_refusal f_count_of_tables f_is_full f_open_house f_book f_cancel f_arrive f_walkin f_leave f_stay f_pass_time f_plan f_quote f_trouble f_tell_off f_free_now f_tables_now f_party_now f_state_now f_answer f_answers g_RANGES g_ROW_COUNTS g_ANSWERERS:Addr)
 (d_Call_init d_read_call d_is_row_in_range d_is_in_range d_Block_init d_seats_together d_block_of_row d_blocks_of d_tight_blocks d_Want_init d_count_of_choices d_wants_beside d_can_all_be_given d_first_choice d_seating_told d_lists_of_places d_without d_fewest_left_out d_seats_of d_time_from_of d_Party_init d_House_init d_House_begin d_House_party_of d_House_at_stage d_House_promised d_House_promised_by_time d_House_party_to_promise d_House_end_of_use d_House_users_from d_House_used_from d_House_user_of_table d_House_unused_tight_blocks d_House_want_of d_House_wants_of d_House_can_keep d_House_block_now d_House_block_with d_House_blocks_told d_House_minutes_to_try d_House_earliest_promise d_House_in_trouble d_House_go_on d_block_told d_parties_told d_has_party d_party_refusal d_count_of_tables d_is_full d_open_house d_book d_cancel d_arrive d_walkin d_leave d_stay d_pass_time d_plan d_quote d_trouble d_tell_off d_free_now d_tables_now d_party_now d_state_now d_answer d_answers:FuncData)
abbrev MgV(mg:Str→Option Value)(x:Str)(a:Addr):Prop:=mg x=some (.ref a)
structure Txt(K:PySem.W.Frag)(mg:Str→Option Value)(t:Adr):Prop where
 mg_Call:MgV mg "Call" t.c_Call
 cl_Call:Cls K t.c_Call
 no_Call_number:NoAttr K t.c_Call "number"
 no_Call_numbers:NoAttr K t.c_Call "numbers"
 no_Call_rows:NoAttr K t.c_Call "rows"
 no_Call_place_behind:NoAttr K t.c_Call "place_behind"
 mk_Call:Mk K t.c_Call t.f_Call_init
 mg_Block:MgV mg "Block" t.c_Block
 cl_Block:Cls K t.c_Block
 no_Block_row:NoAttr K t.c_Block "row"
 no_Block_first:NoAttr K t.c_Block "first"
 no_Block_last:NoAttr K t.c_Block "last"
 no_Block_seats:NoAttr K t.c_Block "seats"
 no_Block_seats_with_one_less:NoAttr K t.c_Block "seats_with_one_less"
 no_Block_tables:NoAttr K t.c_Block "tables"
 mk_Block:Mk K t.c_Block t.f_Block_init
 mg_Want:MgV mg "Want" t.c_Want
 cl_Want:Cls K t.c_Want
 no_Want_start:NoAttr K t.c_Want "start"
 no_Want_end:NoAttr K t.c_Want "end"
 no_Want_choices:NoAttr K t.c_Want "choices"
 mk_Want:Mk K t.c_Want t.f_Want_init
 mg_Party:MgV mg "Party" t.c_Party
 cl_Party:Cls K t.c_Party
 no_Party_number:NoAttr K t.c_Party "number"
 no_Party_size:NoAttr K t.c_Party "size"
 no_Party_time_from:NoAttr K t.c_Party "time_from"
 no_Party_time_to:NoAttr K t.c_Party "time_to"
 no_Party_stage:NoAttr K t.c_Party "stage"
 no_Party_block:NoAttr K t.c_Party "block"
 mk_Party:Mk K t.c_Party t.f_Party_init
 mg_House:MgV mg "House" t.c_House
 cl_House:Cls K t.c_House
 no_House_is_open:NoAttr K t.c_House "is_open"
 no_House_loss:NoAttr K t.c_House "loss"
 no_House_clearing:NoAttr K t.c_House "clearing"
 no_House_rows:NoAttr K t.c_House "rows"
 no_House_blocks:NoAttr K t.c_House "blocks"
 no_House_now:NoAttr K t.c_House "now"
 no_House_parties:NoAttr K t.c_House "parties"
 mk_House:Mk K t.c_House t.f_House_init
 me_House_begin:Meth K t.c_House "begin" t.f_House_begin
 me_House_party_of:Meth K t.c_House "party_of" t.f_House_party_of
 me_House_at_stage:Meth K t.c_House "at_stage" t.f_House_at_stage
 me_House_promised:Meth K t.c_House "promised" t.f_House_promised
 me_House_promised_by_time:Meth K t.c_House "promised_by_time" t.f_House_promised_by_time
 me_House_party_to_promise:Meth K t.c_House "party_to_promise" t.f_House_party_to_promise
 me_House_end_of_use:Meth K t.c_House "end_of_use" t.f_House_end_of_use
 me_House_users_from:Meth K t.c_House "users_from" t.f_House_users_from
 me_House_used_from:Meth K t.c_House "used_from" t.f_House_used_from
 me_House_user_of_table:Meth K t.c_House "user_of_table" t.f_House_user_of_table
 me_House_unused_tight_blocks:Meth K t.c_House "unused_tight_blocks" t.f_House_unused_tight_blocks
 me_House_want_of:Meth K t.c_House "want_of" t.f_House_want_of
 me_House_wants_of:Meth K t.c_House "wants_of" t.f_House_wants_of
 me_House_can_keep:Meth K t.c_House "can_keep" t.f_House_can_keep
 me_House_block_now:Meth K t.c_House "block_now" t.f_House_block_now
 me_House_block_with:Meth K t.c_House "block_with" t.f_House_block_with
 me_House_blocks_told:Meth K t.c_House "blocks_told" t.f_House_blocks_told
 me_House_minutes_to_try:Meth K t.c_House "minutes_to_try" t.f_House_minutes_to_try
 me_House_earliest_promise:Meth K t.c_House "earliest_promise" t.f_House_earliest_promise
 me_House_in_trouble:Meth K t.c_House "in_trouble" t.f_House_in_trouble
 me_House_go_on:Meth K t.c_House "go_on" t.f_House_go_on
 fu_Call_init:Fun K "__init__" "Call.__init__" s_Call_init t.f_Call_init t.d_Call_init
 mg_read_call:MgV mg "read_call" t.f_read_call
 fu_read_call:Fun K "read_call" "read_call" s_read_call t.f_read_call t.d_read_call
 mg_is_row_in_range:MgV mg "is_row_in_range" t.f_is_row_in_range
 fu_is_row_in_range:Fun K "is_row_in_range" "is_row_in_range" s_is_row_in_range t.f_is_row_in_range t.d_is_row_in_range
 mg_is_in_range:MgV mg "is_in_range" t.f_is_in_range
 fu_is_in_range:Fun K "is_in_range" "is_in_range" s_is_in_range t.f_is_in_range t.d_is_in_range
 fu_Block_init:Fun K "__init__" "Block.__init__" s_Block_init t.f_Block_init t.d_Block_init
 mg_seats_together:MgV mg "seats_together" t.f_seats_together
 fu_seats_together:Fun K "seats_together" "seats_together" s_seats_together t.f_seats_together t.d_seats_together
 mg_block_of_row:MgV mg "block_of_row" t.f_block_of_row
 fu_block_of_row:Fun K "block_of_row" "block_of_row" s_block_of_row t.f_block_of_row t.d_block_of_row
 mg_blocks_of:MgV mg "blocks_of" t.f_blocks_of
 fu_blocks_of:Fun K "blocks_of" "blocks_of" s_blocks_of t.f_blocks_of t.d_blocks_of
 mg_tight_blocks:MgV mg "tight_blocks" t.f_tight_blocks
 fu_tight_blocks:Fun K "tight_blocks" "tight_blocks" s_tight_blocks t.f_tight_blocks t.d_tight_blocks
 fu_Want_init:Fun K "__init__" "Want.__init__" s_Want_init t.f_Want_init t.d_Want_init
 mg_count_of_choices:MgV mg "count_of_choices" t.f_count_of_choices
 fu_count_of_choices:Fun K "count_of_choices" "count_of_choices" s_count_of_choices t.f_count_of_choices t.d_count_of_choices
 mg_wants_beside:MgV mg "wants_beside" t.f_wants_beside
 fu_wants_beside:Fun K "wants_beside" "wants_beside" s_wants_beside t.f_wants_beside t.d_wants_beside
 mg_can_all_be_given:MgV mg "can_all_be_given" t.f_can_all_be_given
 fu_can_all_be_given:Fun K "can_all_be_given" "can_all_be_given" s_can_all_be_given t.f_can_all_be_given t.d_can_all_be_given
 mg_first_choice:MgV mg "first_choice" t.f_first_choice
 fu_first_choice:Fun K "first_choice" "first_choice" s_first_choice t.f_first_choice t.d_first_choice
 mg_seating_told:MgV mg "seating_told" t.f_seating_told
 fu_seating_told:Fun K "seating_told" "seating_told" s_seating_told t.f_seating_told t.d_seating_told
 mg_lists_of_places:MgV mg "lists_of_places" t.f_lists_of_places
 fu_lists_of_places:Fun K "lists_of_places" "lists_of_places" s_lists_of_places t.f_lists_of_places t.d_lists_of_places
 mg_without:MgV mg "without" t.f_without
 fu_without:Fun K "without" "without" s_without t.f_without t.d_without
 mg_fewest_left_out:MgV mg "fewest_left_out" t.f_fewest_left_out
 fu_fewest_left_out:Fun K "fewest_left_out" "fewest_left_out" s_fewest_left_out t.f_fewest_left_out t.d_fewest_left_out
 mg_seats_of:MgV mg "seats_of" t.f_seats_of
 fu_seats_of:Fun K "seats_of" "seats_of" s_seats_of t.f_seats_of t.d_seats_of
 mg_time_from_of:MgV mg "time_from_of" t.f_time_from_of
 fu_time_from_of:Fun K "time_from_of" "time_from_of" s_time_from_of t.f_time_from_of t.d_time_from_of
 fu_Party_init:Fun K "__init__" "Party.__init__" s_Party_init t.f_Party_init t.d_Party_init
 fu_House_init:Fun K "__init__" "House.__init__" s_House_init t.f_House_init t.d_House_init
 fu_House_begin:Fun K "begin" "House.begin" s_House_begin t.f_House_begin t.d_House_begin
 fu_House_party_of:Fun K "party_of" "House.party_of" s_House_party_of t.f_House_party_of t.d_House_party_of
 fu_House_at_stage:Fun K "at_stage" "House.at_stage" s_House_at_stage t.f_House_at_stage t.d_House_at_stage
 fu_House_promised:Fun K "promised" "House.promised" s_House_promised t.f_House_promised t.d_House_promised
 fu_House_promised_by_time:Fun K "promised_by_time" "House.promised_by_time" s_House_promised_by_time t.f_House_promised_by_time t.d_House_promised_by_time
 fu_House_party_to_promise:Fun K "party_to_promise" "House.party_to_promise" s_House_party_to_promise t.f_House_party_to_promise t.d_House_party_to_promise
 fu_House_end_of_use:Fun K "end_of_use" "House.end_of_use" s_House_end_of_use t.f_House_end_of_use t.d_House_end_of_use
 fu_House_users_from:Fun K "users_from" "House.users_from" s_House_users_from t.f_House_users_from t.d_House_users_from
 fu_House_used_from:Fun K "used_from" "House.used_from" s_House_used_from t.f_House_used_from t.d_House_used_from
 fu_House_user_of_table:Fun K "user_of_table" "House.user_of_table" s_House_user_of_table t.f_House_user_of_table t.d_House_user_of_table
 fu_House_unused_tight_blocks:Fun K "unused_tight_blocks" "House.unused_tight_blocks" s_House_unused_tight_blocks t.f_House_unused_tight_blocks t.d_House_unused_tight_blocks
 fu_House_want_of:Fun K "want_of" "House.want_of" s_House_want_of t.f_House_want_of t.d_House_want_of
 fu_House_wants_of:Fun K "wants_of" "House.wants_of" s_House_wants_of t.f_House_wants_of t.d_House_wants_of
 fu_House_can_keep:Fun K "can_keep" "House.can_keep" s_House_can_keep t.f_House_can_keep t.d_House_can_keep
 fu_House_block_now:Fun K "block_now" "House.block_now" s_House_block_now t.f_House_block_now t.d_House_block_now
 fu_House_block_with:Fun K "block_with" "House.block_with" s_House_block_with t.f_House_block_with t.d_House_block_with
 fu_House_blocks_told:Fun K "blocks_told" "House.blocks_told" s_House_blocks_told t.f_House_blocks_told t.d_House_blocks_told
 fu_House_minutes_to_try:Fun K "minutes_to_try" "House.minutes_to_try" s_House_minutes_to_try t.f_House_minutes_to_try t.d_House_minutes_to_try
 fu_House_earliest_promise:Fun K "earliest_promise" "House.earliest_promise" s_House_earliest_promise t.f_House_earliest_promise t.d_House_earliest_promise
 fu_House_in_trouble:Fun K "in_trouble" "House.in_trouble" s_House_in_trouble t.f_House_in_trouble t.d_House_in_trouble
 fu_House_go_on:Fun K "go_on" "House.go_on" s_House_go_on t.f_House_go_on t.d_House_go_on
 mg_block_told:MgV mg "block_told" t.f_block_told
 fu_block_told:Fun K "block_told" "block_told" s_block_told t.f_block_told t.d_block_told
 mg_parties_told:MgV mg "parties_told" t.f_parties_told
 fu_parties_told:Fun K "parties_told" "parties_told" s_parties_told t.f_parties_told t.d_parties_told
 mg_has_party:MgV mg "has_party" t.f_has_party
 fu_has_party:Fun K "has_party" "has_party" s_has_party t.f_has_party t.d_has_party
 mg_party_refusal:MgV mg "party_refusal" t.f_party_refusal
 fu_party_refusal:Fun K "party_refusal" "party_refusal" s_party_refusal t.f_party_refusal t.d_party_refusal
 mg_count_of_tables:MgV mg "count_of_tables" t.f_count_of_tables
 fu_count_of_tables:Fun K "count_of_tables" "count_of_tables" s_count_of_tables t.f_count_of_tables t.d_count_of_tables
 mg_is_full:MgV mg "is_full" t.f_is_full
 fu_is_full:Fun K "is_full" "is_full" s_is_full t.f_is_full t.d_is_full
 mg_open_house:MgV mg "open_house" t.f_open_house
 fu_open_house:Fun K "open_house" "open_house" s_open_house t.f_open_house t.d_open_house
 mg_book:MgV mg "book" t.f_book
 fu_book:Fun K "book" "book" s_book t.f_book t.d_book
 mg_cancel:MgV mg "cancel" t.f_cancel
 fu_cancel:Fun K "cancel" "cancel" s_cancel t.f_cancel t.d_cancel
 mg_arrive:MgV mg "arrive" t.f_arrive
 fu_arrive:Fun K "arrive" "arrive" s_arrive t.f_arrive t.d_arrive
 mg_walkin:MgV mg "walkin" t.f_walkin
 fu_walkin:Fun K "walkin" "walkin" s_walkin t.f_walkin t.d_walkin
 mg_leave:MgV mg "leave" t.f_leave
 fu_leave:Fun K "leave" "leave" s_leave t.f_leave t.d_leave
 mg_stay:MgV mg "stay" t.f_stay
 fu_stay:Fun K "stay" "stay" s_stay t.f_stay t.d_stay
 mg_pass_time:MgV mg "pass_time" t.f_pass_time
 fu_pass_time:Fun K "pass_time" "pass_time" s_pass_time t.f_pass_time t.d_pass_time
 mg_plan:MgV mg "plan" t.f_plan
 fu_plan:Fun K "plan" "plan" s_plan t.f_plan t.d_plan
 mg_quote:MgV mg "quote" t.f_quote
 fu_quote:Fun K "quote" "quote" s_quote t.f_quote t.d_quote
 mg_trouble:MgV mg "trouble" t.f_trouble
 fu_trouble:Fun K "trouble" "trouble" s_trouble t.f_trouble t.d_trouble
 mg_tell_off:MgV mg "tell_off" t.f_tell_off
 fu_tell_off:Fun K "tell_off" "tell_off" s_tell_off t.f_tell_off t.d_tell_off
 mg_free_now:MgV mg "free_now" t.f_free_now
 fu_free_now:Fun K "free_now" "free_now" s_free_now t.f_free_now t.d_free_now
 mg_tables_now:MgV mg "tables_now" t.f_tables_now
 fu_tables_now:Fun K "tables_now" "tables_now" s_tables_now t.f_tables_now t.d_tables_now
 mg_party_now:MgV mg "party_now" t.f_party_now
 fu_party_now:Fun K "party_now" "party_now" s_party_now t.f_party_now t.d_party_now
 mg_state_now:MgV mg "state_now" t.f_state_now
 fu_state_now:Fun K "state_now" "state_now" s_state_now t.f_state_now t.d_state_now
 mg_answer:MgV mg "answer" t.f_answer
 fu_answer:Fun K "answer" "answer" s_answer t.f_answer t.d_answer
 mg_answers:MgV mg "answers" t.f_answers
 fu_answers:Fun K "answers" "answers" s_answers t.f_answers t.d_answers
 bn_all:mg "all"=none
 bn_enumerate:mg "enumerate"=none
 bn_len:mg "len"=none
 bn_max:mg "max"=none
 bn_range:mg "range"=none
 bn_set:mg "set"=none
 bn_sorted:mg "sorted"=none
 bn_sum:mg "sum"=none
 bn_zip:mg "zip"=none
 ct_LONGEST_ROW: ∃k,mg "LONGEST_ROW"=some (.int 8 k)
 ct_MOST_SEATS: ∃k,mg "MOST_SEATS"=some (.int 10 k)
 ct_PROMISED: ∃k,mg "PROMISED"=some (.int 0 k)
 ct_AT_A_TABLE: ∃k,mg "AT_A_TABLE"=some (.int 1 k)
 ct_LEFT: ∃k,mg "LEFT"=some (.int 2 k)
 ct_CALLED_OFF: ∃k,mg "CALLED_OFF"=some (.int 3 k)
 ct_NEVER_CAME: ∃k,mg "NEVER_CAME"=some (.int 4 k)
 ct_TOLD_OFF: ∃k,mg "TOLD_OFF"=some (.int 5 k)
 ct_OPEN_CALL: ∃k,mg "OPEN_CALL"=some (.int 0 k)
 ct_MOST_TABLES: ∃k,mg "MOST_TABLES"=some (.int 8 k)
 ct_MOST_PARTIES: ∃k,mg "MOST_PARTIES"=some (.int 60 k)
 ct_MOST_PROMISED: ∃k,mg "MOST_PROMISED"=some (.int 5 k)
 ct_LAST_MINUTE: ∃k,mg "LAST_MINUTE"=some (.int 100000 k)
 mg_RANGES:MgV mg "RANGES" t.g_RANGES
 mg_ROW_COUNTS:MgV mg "ROW_COUNTS" t.g_ROW_COUNTS
 mg_ANSWERERS:MgV mg "ANSWERERS" t.g_ANSWERERS
section
variable {K:PySem.W.Frag}{x qual:Str}{st:Stmt}{f:Addr}{fd:FuncData}(F:Fun K x qual st f fd)
include F
theorem bi1{x0:Str}(h: ∀(kV doc pm:Value) (an:Option Addr) (cdv ct u0:Value),bindArgs (PySem.W.fnOf x qual (defArgs st) (defBody st) (defScope st) .none kV doc pm an cdv ct) ⟨[u0],[]⟩=pure [(x0,u0)]):Binds K fd [x0] []:=
 F.binds fun a b c d e g us hl=>match us,hl with | [u0],_=>h a b c d e g u0
theorem bi2{x0 x1:Str}(h: ∀(kV doc pm:Value) (an:Option Addr) (cdv ct u0 u1:Value),bindArgs (PySem.W.fnOf x qual (defArgs st) (defBody st) (defScope st) .none kV doc pm an cdv ct) ⟨[u0,u1],[]⟩=pure [(x0,u0),(x1,u1)]):Binds K fd [x0,x1] []:=
 F.binds fun a b c d e g us hl=>match us,hl with | [u0,u1],_=>h a b c d e g u0 u1
theorem bi3{x0 x1 x2:Str}(h: ∀(kV doc pm:Value) (an:Option Addr) (cdv ct u0 u1 u2:Value),bindArgs (PySem.W.fnOf x qual (defArgs st) (defBody st) (defScope st) .none kV doc pm an cdv ct) ⟨[u0,u1,u2],[]⟩=pure [(x0,u0),(x1,u1),(x2,u2)]):Binds K fd [x0,x1,x2] []:=
 F.binds fun a b c d e g us hl=>match us,hl with | [u0,u1,u2],_=>h a b c d e g u0 u1 u2
theorem bi4{x0 x1 x2 x3:Str}(h: ∀(kV doc pm:Value) (an:Option Addr) (cdv ct u0 u1 u2 u3:Value),bindArgs (PySem.W.fnOf x qual (defArgs st) (defBody st) (defScope st) .none kV doc pm an cdv ct) ⟨[u0,u1,u2,u3],[]⟩=pure [(x0,u0),(x1,u1),(x2,u2),(x3,u3)]):Binds K fd [x0,x1,x2,x3] []:=
 F.binds fun a b c d e g us hl=>match us,hl with | [u0,u1,u2,u3],_=>h a b c d e g u0 u1 u2 u3
theorem bi5{x0 x1 x2 x3 x4:Str}(h: ∀(kV doc pm:Value) (an:Option Addr) (cdv ct u0 u1 u2 u3 u4:Value),bindArgs (PySem.W.fnOf x qual (defArgs st) (defBody st) (defScope st) .none kV doc pm an cdv ct) ⟨[u0,u1,u2,u3,u4],[]⟩=pure [(x0,u0),(x1,u1),(x2,u2),(x3,u3),(x4,u4)]):Binds K fd [x0,x1,x2,x3,x4] []:=
 F.binds fun a b c d e g us hl=>match us,hl with | [u0,u1,u2,u3,u4],_=>h a b c d e g u0 u1 u2 u3 u4
theorem bi6{x0 x1 x2 x3 x4 x5:Str}(h: ∀(kV doc pm:Value) (an:Option Addr) (cdv ct u0 u1 u2 u3 u4 u5:Value),bindArgs (PySem.W.fnOf x qual (defArgs st) (defBody st) (defScope st) .none kV doc pm an cdv ct) ⟨[u0,u1,u2,u3,u4,u5],[]⟩=pure [(x0,u0),(x1,u1),(x2,u2),(x3,u3),(x4,u4),(x5,u5)]):Binds K fd [x0,x1,x2,x3,x4,x5] []:=
 F.binds fun a b c d e g us hl=>match us,hl with | [u0,u1,u2,u3,u4,u5],_=>h a b c d e g u0 u1 u2 u3 u4 u5
theorem bi7{x0 x1 x2 x3 x4 x5 x6:Str}(h: ∀(kV doc pm:Value) (an:Option Addr) (cdv ct u0 u1 u2 u3 u4 u5 u6:Value),bindArgs (PySem.W.fnOf x qual (defArgs st) (defBody st) (defScope st) .none kV doc pm an cdv ct) ⟨[u0,u1,u2,u3,u4,u5,u6],[]⟩=pure [(x0,u0),(x1,u1),(x2,u2),(x3,u3),(x4,u4),(x5,u5),(x6,u6)]):Binds K fd [x0,x1,x2,x3,x4,x5,x6] []:=
 F.binds fun a b c d e g us hl=>match us,hl with | [u0,u1,u2,u3,u4,u5,u6],_=>h a b c d e g u0 u1 u2 u3 u4 u5 u6
end
def okSc(N P:List Str)(sc:Scope):Bool:=decide (sc.kind= .function)&&(!sc.isCoroutine&&(!sc.isGenerator&&(decide N.Nodup&&(decide (N.take P.length=P)&&(decide (∀x∈P,sc.names.lookup x=some .local ∨sc.names.lookup x=some .cell)&&decide (∀y∈sc.names,y.2≠ .free))))))
theorem scOf{N P:List Str}{sc:Scope}(h:okSc N P sc=true):FnScope N P sc:=by
 unfold okSc at h
 simp only[Bool.and_eq_true,Bool.not_eq_true',decide_eq_true_eq]at h
 obtain⟨h1,h2,h3,h4,h5,h6,h7⟩:=h
 exact⟨h1,h2,h3,h4,h5,h6,h7⟩
section
variable {K:PySem.W.Frag}{mg:Str→Option Value}{t:Adr}(T:Txt K mg t)
include T
theorem Txt.bi_Call_init:Binds K t.d_Call_init ["self","number","numbers","rows","place_behind"] []:=bi5 T.fu_Call_init fun _ _ _ _ _ _ _ _ _ _ _=>rfl
theorem Txt.bi_read_call:Binds K t.d_read_call ["calls","place"] []:=bi2 T.fu_read_call fun _ _ _ _ _ _ _ _=>rfl
theorem Txt.bi_is_row_in_range:Binds K t.d_is_row_in_range ["row"] []:=bi1 T.fu_is_row_in_range fun _ _ _ _ _ _ _=>rfl
theorem Txt.bi_is_in_range:Binds K t.d_is_in_range ["call"] []:=bi1 T.fu_is_in_range fun _ _ _ _ _ _ _=>rfl
theorem Txt.bi_Block_init:Binds K t.d_Block_init ["self","row","first","last","seats","seats_with_one_less","tables"] []:=bi7 T.fu_Block_init fun _ _ _ _ _ _ _ _ _ _ _ _ _=>rfl
theorem Txt.bi_seats_together:Binds K t.d_seats_together ["tables","loss"] []:=bi2 T.fu_seats_together fun _ _ _ _ _ _ _ _=>rfl
theorem Txt.bi_block_of_row:Binds K t.d_block_of_row ["number","row","first","last","loss","tables_before"] []:=bi6 T.fu_block_of_row fun _ _ _ _ _ _ _ _ _ _ _ _=>rfl
theorem Txt.bi_blocks_of:Binds K t.d_blocks_of ["rows","loss"] []:=bi2 T.fu_blocks_of fun _ _ _ _ _ _ _ _=>rfl
theorem Txt.bi_tight_blocks:Binds K t.d_tight_blocks ["blocks","size"] []:=bi2 T.fu_tight_blocks fun _ _ _ _ _ _ _ _=>rfl
theorem Txt.bi_Want_init:Binds K t.d_Want_init ["self","start","end","choices"] []:=bi4 T.fu_Want_init fun _ _ _ _ _ _ _ _ _ _=>rfl
theorem Txt.bi_count_of_choices:Binds K t.d_count_of_choices ["want"] []:=bi1 T.fu_count_of_choices fun _ _ _ _ _ _ _=>rfl
theorem Txt.bi_wants_beside:Binds K t.d_wants_beside ["wants","start","end","tables"] []:=bi4 T.fu_wants_beside fun _ _ _ _ _ _ _ _ _ _=>rfl
theorem Txt.bi_can_all_be_given:Binds K t.d_can_all_be_given ["wants"] []:=bi1 T.fu_can_all_be_given fun _ _ _ _ _ _ _=>rfl
theorem Txt.bi_first_choice:Binds K t.d_first_choice ["want","rest"] []:=bi2 T.fu_first_choice fun _ _ _ _ _ _ _ _=>rfl
theorem Txt.bi_seating_told:Binds K t.d_seating_told ["wants"] []:=bi1 T.fu_seating_told fun _ _ _ _ _ _ _=>rfl
theorem Txt.bi_lists_of_places:Binds K t.d_lists_of_places ["count"] []:=bi1 T.fu_lists_of_places fun _ _ _ _ _ _ _=>rfl
theorem Txt.bi_without:Binds K t.d_without ["wants","places"] []:=bi2 T.fu_without fun _ _ _ _ _ _ _ _=>rfl
theorem Txt.bi_fewest_left_out:Binds K t.d_fewest_left_out ["wants"] []:=bi1 T.fu_fewest_left_out fun _ _ _ _ _ _ _=>rfl
theorem Txt.bi_seats_of:Binds K t.d_seats_of ["block"] []:=bi1 T.fu_seats_of fun _ _ _ _ _ _ _=>rfl
theorem Txt.bi_time_from_of:Binds K t.d_time_from_of ["party"] []:=bi1 T.fu_time_from_of fun _ _ _ _ _ _ _=>rfl
theorem Txt.bi_Party_init:Binds K t.d_Party_init ["self","number","size","time_from","time_to","stage","block"] []:=bi7 T.fu_Party_init fun _ _ _ _ _ _ _ _ _ _ _ _ _=>rfl
theorem Txt.bi_House_init:Binds K t.d_House_init ["self"] []:=bi1 T.fu_House_init fun _ _ _ _ _ _ _=>rfl
theorem Txt.bi_House_begin:Binds K t.d_House_begin ["self","loss","clearing","rows"] []:=bi4 T.fu_House_begin fun _ _ _ _ _ _ _ _ _ _=>rfl
theorem Txt.bi_House_party_of:Binds K t.d_House_party_of ["self","number"] []:=bi2 T.fu_House_party_of fun _ _ _ _ _ _ _ _=>rfl
theorem Txt.bi_House_at_stage:Binds K t.d_House_at_stage ["self","stage"] []:=bi2 T.fu_House_at_stage fun _ _ _ _ _ _ _ _=>rfl
theorem Txt.bi_House_promised:Binds K t.d_House_promised ["self"] []:=bi1 T.fu_House_promised fun _ _ _ _ _ _ _=>rfl
theorem Txt.bi_House_promised_by_time:Binds K t.d_House_promised_by_time ["self"] []:=bi1 T.fu_House_promised_by_time fun _ _ _ _ _ _ _=>rfl
theorem Txt.bi_House_party_to_promise:Binds K t.d_House_party_to_promise ["self","size","time_from","minutes"] []:=bi4 T.fu_House_party_to_promise fun _ _ _ _ _ _ _ _ _ _=>rfl
theorem Txt.bi_House_end_of_use:Binds K t.d_House_end_of_use ["self","time_to"] []:=bi2 T.fu_House_end_of_use fun _ _ _ _ _ _ _ _=>rfl
theorem Txt.bi_House_users_from:Binds K t.d_House_users_from ["self","minute"] []:=bi2 T.fu_House_users_from fun _ _ _ _ _ _ _ _=>rfl
theorem Txt.bi_House_used_from:Binds K t.d_House_used_from ["self","minute"] []:=bi2 T.fu_House_used_from fun _ _ _ _ _ _ _ _=>rfl
theorem Txt.bi_House_user_of_table:Binds K t.d_House_user_of_table ["self","place"] []:=bi2 T.fu_House_user_of_table fun _ _ _ _ _ _ _ _=>rfl
theorem Txt.bi_House_unused_tight_blocks:Binds K t.d_House_unused_tight_blocks ["self","size","minute"] []:=bi3 T.fu_House_unused_tight_blocks fun _ _ _ _ _ _ _ _ _=>rfl
theorem Txt.bi_House_want_of:Binds K t.d_House_want_of ["self","party"] []:=bi2 T.fu_House_want_of fun _ _ _ _ _ _ _ _=>rfl
theorem Txt.bi_House_wants_of:Binds K t.d_House_wants_of ["self","parties"] []:=bi2 T.fu_House_wants_of fun _ _ _ _ _ _ _ _=>rfl
theorem Txt.bi_House_can_keep:Binds K t.d_House_can_keep ["self","promised"] []:=bi2 T.fu_House_can_keep fun _ _ _ _ _ _ _ _=>rfl
theorem Txt.bi_House_block_now:Binds K t.d_House_block_now ["self","size","time_to","promised"] []:=bi4 T.fu_House_block_now fun _ _ _ _ _ _ _ _ _ _=>rfl
theorem Txt.bi_House_block_with:Binds K t.d_House_block_with ["self","tables"] []:=bi2 T.fu_House_block_with fun _ _ _ _ _ _ _ _=>rfl
theorem Txt.bi_House_blocks_told:Binds K t.d_House_blocks_told ["self","parties"] []:=bi2 T.fu_House_blocks_told fun _ _ _ _ _ _ _ _=>rfl
theorem Txt.bi_House_minutes_to_try:Binds K t.d_House_minutes_to_try ["self"] []:=bi1 T.fu_House_minutes_to_try fun _ _ _ _ _ _ _=>rfl
theorem Txt.bi_House_earliest_promise:Binds K t.d_House_earliest_promise ["self","size","minutes"] []:=bi3 T.fu_House_earliest_promise fun _ _ _ _ _ _ _ _ _=>rfl
theorem Txt.bi_House_in_trouble:Binds K t.d_House_in_trouble ["self"] []:=bi1 T.fu_House_in_trouble fun _ _ _ _ _ _ _=>rfl
theorem Txt.bi_House_go_on:Binds K t.d_House_go_on ["self","minutes"] []:=bi2 T.fu_House_go_on fun _ _ _ _ _ _ _ _=>rfl
theorem Txt.bi_block_told:Binds K t.d_block_told ["block"] []:=bi1 T.fu_block_told fun _ _ _ _ _ _ _=>rfl
theorem Txt.bi_parties_told:Binds K t.d_parties_told ["parties"] []:=bi1 T.fu_parties_told fun _ _ _ _ _ _ _=>rfl
theorem Txt.bi_has_party:Binds K t.d_has_party ["house","number"] []:=bi2 T.fu_has_party fun _ _ _ _ _ _ _ _=>rfl
theorem Txt.bi_party_refusal:Binds K t.d_party_refusal ["house","number","stage"] []:=bi3 T.fu_party_refusal fun _ _ _ _ _ _ _ _ _=>rfl
theorem Txt.bi_count_of_tables:Binds K t.d_count_of_tables ["rows"] []:=bi1 T.fu_count_of_tables fun _ _ _ _ _ _ _=>rfl
theorem Txt.bi_is_full:Binds K t.d_is_full ["house"] []:=bi1 T.fu_is_full fun _ _ _ _ _ _ _=>rfl
theorem Txt.bi_open_house:Binds K t.d_open_house ["house","call"] []:=bi2 T.fu_open_house fun _ _ _ _ _ _ _ _=>rfl
theorem Txt.bi_book:Binds K t.d_book ["house","call"] []:=bi2 T.fu_book fun _ _ _ _ _ _ _ _=>rfl
theorem Txt.bi_cancel:Binds K t.d_cancel ["house","call"] []:=bi2 T.fu_cancel fun _ _ _ _ _ _ _ _=>rfl
theorem Txt.bi_arrive:Binds K t.d_arrive ["house","call"] []:=bi2 T.fu_arrive fun _ _ _ _ _ _ _ _=>rfl
theorem Txt.bi_walkin:Binds K t.d_walkin ["house","call"] []:=bi2 T.fu_walkin fun _ _ _ _ _ _ _ _=>rfl
theorem Txt.bi_leave:Binds K t.d_leave ["house","call"] []:=bi2 T.fu_leave fun _ _ _ _ _ _ _ _=>rfl
theorem Txt.bi_stay:Binds K t.d_stay ["house","call"] []:=bi2 T.fu_stay fun _ _ _ _ _ _ _ _=>rfl
theorem Txt.bi_pass_time:Binds K t.d_pass_time ["house","call"] []:=bi2 T.fu_pass_time fun _ _ _ _ _ _ _ _=>rfl
theorem Txt.bi_plan:Binds K t.d_plan ["house","call"] []:=bi2 T.fu_plan fun _ _ _ _ _ _ _ _=>rfl
theorem Txt.bi_quote:Binds K t.d_quote ["house","call"] []:=bi2 T.fu_quote fun _ _ _ _ _ _ _ _=>rfl
theorem Txt.bi_trouble:Binds K t.d_trouble ["house","call"] []:=bi2 T.fu_trouble fun _ _ _ _ _ _ _ _=>rfl
theorem Txt.bi_tell_off:Binds K t.d_tell_off ["house","call"] []:=bi2 T.fu_tell_off fun _ _ _ _ _ _ _ _=>rfl
theorem Txt.bi_free_now:Binds K t.d_free_now ["house","call"] []:=bi2 T.fu_free_now fun _ _ _ _ _ _ _ _=>rfl
theorem Txt.bi_tables_now:Binds K t.d_tables_now ["house","call"] []:=bi2 T.fu_tables_now fun _ _ _ _ _ _ _ _=>rfl
theorem Txt.bi_party_now:Binds K t.d_party_now ["house","call"] []:=bi2 T.fu_party_now fun _ _ _ _ _ _ _ _=>rfl
theorem Txt.bi_state_now:Binds K t.d_state_now ["house","call"] []:=bi2 T.fu_state_now fun _ _ _ _ _ _ _ _=>rfl
theorem Txt.bi_answer:Binds K t.d_answer ["house","call"] []:=bi2 T.fu_answer fun _ _ _ _ _ _ _ _=>rfl
end
theorem sc_Call_init:FnScope n_Call_init ["self","number","numbers","rows","place_behind"] (defScope s_Call_init):=scOf (by decide +kernel)
theorem sc_read_call:FnScope n_read_call ["calls","place"] (defScope s_read_call):=scOf (by decide +kernel)
theorem sc_is_row_in_range:FnScope n_is_row_in_range ["row"] (defScope s_is_row_in_range):=scOf (by decide +kernel)
theorem sc_is_in_range:FnScope n_is_in_range ["call"] (defScope s_is_in_range):=scOf (by decide +kernel)
theorem sc_Block_init:FnScope n_Block_init ["self","row","first","last","seats","seats_with_one_less","tables"] (defScope s_Block_init):=scOf (by decide +kernel)
theorem sc_seats_together:FnScope n_seats_together ["tables","loss"] (defScope s_seats_together):=scOf (by decide +kernel)
theorem sc_block_of_row:FnScope n_block_of_row ["number","row","first","last","loss","tables_before"] (defScope s_block_of_row):=scOf (by decide +kernel)
theorem sc_blocks_of:FnScope n_blocks_of ["rows","loss"] (defScope s_blocks_of):=scOf (by decide +kernel)
theorem sc_tight_blocks:FnScope n_tight_blocks ["blocks","size"] (defScope s_tight_blocks):=scOf (by decide +kernel)
theorem sc_Want_init:FnScope n_Want_init ["self","start","end","choices"] (defScope s_Want_init):=scOf (by decide +kernel)
theorem sc_count_of_choices:FnScope n_count_of_choices ["want"] (defScope s_count_of_choices):=scOf (by decide +kernel)
theorem sc_wants_beside:FnScope n_wants_beside ["wants","start","end","tables"] (defScope s_wants_beside):=scOf (by decide +kernel)
theorem sc_can_all_be_given:FnScope n_can_all_be_given ["wants"] (defScope s_can_all_be_given):=scOf (by decide +kernel)
theorem sc_first_choice:FnScope n_first_choice ["want","rest"] (defScope s_first_choice):=scOf (by decide +kernel)
theorem sc_seating_told:FnScope n_seating_told ["wants"] (defScope s_seating_told):=scOf (by decide +kernel)
theorem sc_lists_of_places:FnScope n_lists_of_places ["count"] (defScope s_lists_of_places):=scOf (by decide +kernel)
theorem sc_without:FnScope n_without ["wants","places"] (defScope s_without):=scOf (by decide +kernel)
theorem sc_fewest_left_out:FnScope n_fewest_left_out ["wants"] (defScope s_fewest_left_out):=scOf (by decide +kernel)
theorem sc_seats_of:FnScope n_seats_of ["block"] (defScope s_seats_of):=scOf (by decide +kernel)
theorem sc_time_from_of:FnScope n_time_from_of ["party"] (defScope s_time_from_of):=scOf (by decide +kernel)
theorem sc_Party_init:FnScope n_Party_init ["self","number","size","time_from","time_to","stage","block"] (defScope s_Party_init):=scOf (by decide +kernel)
theorem sc_House_init:FnScope n_House_init ["self"] (defScope s_House_init):=scOf (by decide +kernel)
theorem sc_House_begin:FnScope n_House_begin ["self","loss","clearing","rows"] (defScope s_House_begin):=scOf (by decide +kernel)
theorem sc_House_party_of:FnScope n_House_party_of ["self","number"] (defScope s_House_party_of):=scOf (by decide +kernel)
theorem sc_House_at_stage:FnScope n_House_at_stage ["self","stage"] (defScope s_House_at_stage):=scOf (by decide +kernel)
theorem sc_House_promised:FnScope n_House_promised ["self"] (defScope s_House_promised):=scOf (by decide +kernel)
theorem sc_House_promised_by_time:FnScope n_House_promised_by_time ["self"] (defScope s_House_promised_by_time):=scOf (by decide +kernel)
theorem sc_House_party_to_promise:FnScope n_House_party_to_promise ["self","size","time_from","minutes"] (defScope s_House_party_to_promise):=scOf (by decide +kernel)
theorem sc_House_end_of_use:FnScope n_House_end_of_use ["self","time_to"] (defScope s_House_end_of_use):=scOf (by decide +kernel)
theorem sc_House_users_from:FnScope n_House_users_from ["self","minute"] (defScope s_House_users_from):=scOf (by decide +kernel)
theorem sc_House_used_from:FnScope n_House_used_from ["self","minute"] (defScope s_House_used_from):=scOf (by decide +kernel)
theorem sc_House_user_of_table:FnScope n_House_user_of_table ["self","place"] (defScope s_House_user_of_table):=scOf (by decide +kernel)
theorem sc_House_unused_tight_blocks:FnScope n_House_unused_tight_blocks ["self","size","minute"] (defScope s_House_unused_tight_blocks):=scOf (by decide +kernel)
theorem sc_House_want_of:FnScope n_House_want_of ["self","party"] (defScope s_House_want_of):=scOf (by decide +kernel)
theorem sc_House_wants_of:FnScope n_House_wants_of ["self","parties"] (defScope s_House_wants_of):=scOf (by decide +kernel)
theorem sc_House_can_keep:FnScope n_House_can_keep ["self","promised"] (defScope s_House_can_keep):=scOf (by decide +kernel)
theorem sc_House_block_now:FnScope n_House_block_now ["self","size","time_to","promised"] (defScope s_House_block_now):=scOf (by decide +kernel)
theorem sc_House_block_with:FnScope n_House_block_with ["self","tables"] (defScope s_House_block_with):=scOf (by decide +kernel)
theorem sc_House_blocks_told:FnScope n_House_blocks_told ["self","parties"] (defScope s_House_blocks_told):=scOf (by decide +kernel)
theorem sc_House_minutes_to_try:FnScope n_House_minutes_to_try ["self"] (defScope s_House_minutes_to_try):=scOf (by decide +kernel)
theorem sc_House_earliest_promise:FnScope n_House_earliest_promise ["self","size","minutes"] (defScope s_House_earliest_promise):=scOf (by decide +kernel)
theorem sc_House_in_trouble:FnScope n_House_in_trouble ["self"] (defScope s_House_in_trouble):=scOf (by decide +kernel)
theorem sc_House_go_on:FnScope n_House_go_on ["self","minutes"] (defScope s_House_go_on):=scOf (by decide +kernel)
theorem sc_block_told:FnScope n_block_told ["block"] (defScope s_block_told):=scOf (by decide +kernel)
theorem sc_parties_told:FnScope n_parties_told ["parties"] (defScope s_parties_told):=scOf (by decide +kernel)
theorem sc_has_party:FnScope n_has_party ["house","number"] (defScope s_has_party):=scOf (by decide +kernel)
theorem sc_party_refusal:FnScope n_party_refusal ["house","number","stage"] (defScope s_party_refusal):=scOf (by decide +kernel)
theorem sc_count_of_tables:FnScope n_count_of_tables ["rows"] (defScope s_count_of_tables):=scOf (by decide +kernel)
theorem sc_is_full:FnScope n_is_full ["house"] (defScope s_is_full):=scOf (by decide +kernel)
theorem sc_open_house:FnScope n_open_house ["house","call"] (defScope s_open_house):=scOf (by decide +kernel)
theorem sc_book:FnScope n_book ["house","call"] (defScope s_book):=scOf (by decide +kernel)
theorem sc_cancel:FnScope n_cancel ["house","call"] (defScope s_cancel):=scOf (by decide +kernel)
theorem sc_arrive:FnScope n_arrive ["house","call"] (defScope s_arrive):=scOf (by decide +kernel)
theorem sc_walkin:FnScope n_walkin ["house","call"] (defScope s_walkin):=scOf (by decide +kernel)
theorem sc_leave:FnScope n_leave ["house","call"] (defScope s_leave):=scOf (by decide +kernel)
theorem sc_stay:FnScope n_stay ["house","call"] (defScope s_stay):=scOf (by decide +kernel)
theorem sc_pass_time:FnScope n_pass_time ["house","call"] (defScope s_pass_time):=scOf (by decide +kernel)
theorem sc_plan:FnScope n_plan ["house","call"] (defScope s_plan):=scOf (by decide +kernel)
theorem sc_quote:FnScope n_quote ["house","call"] (defScope s_quote):=scOf (by decide +kernel)
theorem sc_trouble:FnScope n_trouble ["house","call"] (defScope s_trouble):=scOf (by decide +kernel)
theorem sc_tell_off:FnScope n_tell_off ["house","call"] (defScope s_tell_off):=scOf (by decide +kernel)
theorem sc_free_now:FnScope n_free_now ["house","call"] (defScope s_free_now):=scOf (by decide +kernel)
theorem sc_tables_now:FnScope n_tables_now ["house","call"] (defScope s_tables_now):=scOf (by decide +kernel)
theorem sc_party_now:FnScope n_party_now ["house","call"] (defScope s_party_now):=scOf (by decide +kernel)
theorem sc_state_now:FnScope n_state_now ["house","call"] (defScope s_state_now):=scOf (by decide +kernel)
theorem sc_answer:FnScope n_answer ["house","call"] (defScope s_answer):=scOf (by decide +kernel)
theorem sc_answers:FnScope n_answers ["calls"] (defScope s_answers):=scOf (by decide +kernel)
abbrev NS(K:PySem.W.Frag)(x:Str)(a:Addr):Prop:=PySem.W.nsIn K mainGlobals x=some (some (.ref a))
abbrev NSn(K:PySem.W.Frag)(x:Str):Prop:=PySem.W.nsIn K mainGlobals x=some none
abbrev NSi(K:PySem.W.Frag)(x:Str)(i:Int)(k:Tok):Prop:=PySem.W.nsIn K mainGlobals x=some (some (.int i k))
theorem txt_mk{K:PySem.W.Frag}{h:Heap}{mg:Str→Option Value}(X:K.In h)(G:h.Ns mainGlobals mg){c0 c1 c2 c3 c4 f0 f1 f2 f3 f4 f5 f6 f7 f8 f9 f10 f11 f12 f13 f14 f15 f16 f17 f18 f19 f20 f21 f22 f23 f24 f25 f26 f27 f28 f29 f30 f31 f32 f33 f34 f35 f36 f37 f38 f39 f40 f41 f42 f43 f44 f45 f46 f47 f48 f49 f50 f51 f52 f53 f54 f55 f56 f57 f58 f59 f60 f61 f62 f63 f64 f65 f66 g0 g1 g2:Addr}{d0 d1 d2 d3 d4 d5 d6 d7 d8 d9 d10 d11 d12 d13 d14 d15 d16 d17 d18 d19 d20 d21 d22 d23 d24 d25 d26 d27 d28 d29 d30 d31 d32 d33 d34 d35 d36 d37 d38 d39 d40 d41 d42 d43 d44 d45 d46 d47 d48 d49 d50 d51 d52 d53 d54 d55 d56 d57 d58 d59 d60 d61 d62 d63 d64 d65 d66:FuncData}{k_LONGEST_ROW k_MOST_SEATS k_PROMISED k_AT_A_TABLE k_LEFT k_CALLED_OFF k_NEVER_CAME k_TOLD_OFF k_OPEN_CALL k_MOST_TABLES k_MOST_PARTIES k_MOST_PROMISED k_LAST_MINUTE:Tok}
  (h0:NS K "Call" c0)(h1:Cls K c0)(h2:NoAttr K c0 "number")(h3:NoAttr K c0 "numbers")(h4:NoAttr K c0 "rows")(h5:NoAttr K c0 "place_behind")(h6:Mk K c0 f0)(h7:NS K "Block" c1)(h8:Cls K c1)(h9:NoAttr K c1 "row")(h10:NoAttr K c1 "first")(h11:NoAttr K c1 "last")(h12:NoAttr K c1 "seats")(h13:NoAttr K c1 "seats_with_one_less")(h14:NoAttr K c1 "tables")(h15:Mk K c1 f4)(h16:NS K "Want" c2)(h17:Cls K c2)(h18:NoAttr K c2 "start")(h19:NoAttr K c2 "end")(h20:NoAttr K c2 "choices")(h21:Mk K c2 f9)(h22:NS K "Party" c3)(h23:Cls K c3)(h24:NoAttr K c3 "number")(h25:NoAttr K c3 "size")(h26:NoAttr K c3 "time_from")(h27:NoAttr K c3 "time_to")(h28:NoAttr K c3 "stage")(h29:NoAttr K c3 "block")(h30:Mk K c3 f20)(h31:NS K "House" c4)(h32:Cls K c4)(h33:NoAttr K c4 "is_open")(h34:NoAttr K c4 "loss")(h35:NoAttr K c4 "clearing")(h36:NoAttr K c4 "rows")(h37:NoAttr K c4 "blocks")(h38:NoAttr K c4 "now")(h39:NoAttr K c4 "parties")(h40:Mk K c4 f21)(h41:Meth K c4 "begin" f22)(h42:Meth K c4 "party_of" f23)(h43:Meth K c4 "at_stage" f24)(h44:Meth K c4 "promised" f25)(h45:Meth K c4 "promised_by_time" f26)(h46:Meth K c4 "party_to_promise" f27)(h47:Meth K c4 "end_of_use" f28)(h48:Meth K c4 "users_from" f29)(h49:Meth K c4 "used_from" f30)(h50:Meth K c4 "user_of_table" f31)(h51:Meth K c4 "unused_tight_blocks" f32)(h52:Meth K c4 "want_of" f33)(h53:Meth K c4 "wants_of" f34)(h54:Meth K c4 "can_keep" f35)(h55:Meth K c4 "block_now" f36)(h56:Meth K c4 "block_with" f37)(h57:Meth K c4 "blocks_told" f38)(h58:Meth K c4 "minutes_to_try" f39)(h59:Meth K c4 "earliest_promise" f40)(h60:Meth K c4 "in_trouble" f41)(h61:Meth K c4 "go_on" f42)(h62:Fun K "__init__" "Call.__init__" s_Call_init f0 d0)(h63:NS K "read_call" f1)(h64:Fun K "read_call" "read_call" s_read_call f1 d1)(h65:NS K "is_row_in_range" f2)(h66:Fun K "is_row_in_range" "is_row_in_range" s_is_row_in_range f2 d2)(h67:NS K "is_in_range" f3)(h68:Fun K "is_in_range" "is_in_range" s_is_in_range f3 d3)(h69:Fun K "__init__" "Block.__init__" s_Block_init f4 d4)(h70:NS K "seats_together" f5)(h71:Fun K "seats_together" "seats_together" s_seats_together f5 d5)(h72:NS K "block_of_row" f6)(h73:Fun K "block_of_row" "block_of_row" s_block_of_row f6 d6)(h74:NS K "blocks_of" f7)(h75:Fun K "blocks_of" "blocks_of" s_blocks_of f7 d7)(h76:NS K "tight_blocks" f8)(h77:Fun K "tight_blocks" "tight_blocks" s_tight_blocks f8 d8)(h78:Fun K "__init__" "Want.__init__" s_Want_init f9 d9)(h79:NS K "count_of_choices" f10)(h80:Fun K "count_of_choices" "count_of_choices" s_count_of_choices f10 d10)(h81:NS K "wants_beside" f11)(h82:Fun K "wants_beside" "wants_beside" s_wants_beside f11 d11)(h83:NS K "can_all_be_given" f12)(h84:Fun K "can_all_be_given" "can_all_be_given" s_can_all_be_given f12 d12)(h85:NS K "first_choice" f13)(h86:Fun K "first_choice" "first_choice" s_first_choice f13 d13)(h87:NS K "seating_told" f14)(h88:Fun K "seating_told" "seating_told" s_seating_told f14 d14)(h89:NS K "lists_of_places" f15)(h90:Fun K "lists_of_places" "lists_of_places" s_lists_of_places f15 d15)(h91:NS K "without" f16)(h92:Fun K "without" "without" s_without f16 d16)(h93:NS K "fewest_left_out" f17)(h94:Fun K "fewest_left_out" "fewest_left_out" s_fewest_left_out f17 d17)(h95:NS K "seats_of" f18)(h96:Fun K "seats_of" "seats_of" s_seats_of f18 d18)(h97:NS K "time_from_of" f19)(h98:Fun K "time_from_of" "time_from_of" s_time_from_of f19 d19)(h99:Fun K "__init__" "Party.__init__" s_Party_init f20 d20)(h100:Fun K "__init__" "House.__init__" s_House_init f21 d21)(h101:Fun K "begin" "House.begin" s_House_begin f22 d22)(h102:Fun K "party_of" "House.party_of" s_House_party_of f23 d23)(h103:Fun K "at_stage" "House.at_stage" s_House_at_stage f24 d24)(h104:Fun K "promised" "House.promised" s_House_promised f25 d25)(h105:Fun K "promised_by_time" "House.promised_by_time" s_House_promised_by_time f26 d26)(h106:Fun K "party_to_promise" "House.party_to_promise" s_House_party_to_promise f27 d27)(h107:Fun K "end_of_use" "House.end_of_use" s_House_end_of_use f28 d28)(h108:Fun K "users_from" "House.users_from" s_House_users_from f29 d29)(h109:Fun K "used_from" "House.used_from" s_House_used_from f30 d30)(h110:Fun K "user_of_table" "House.user_of_table" s_House_user_of_table f31 d31)(h111:Fun K "unused_tight_blocks" "House.unused_tight_blocks" s_House_unused_tight_blocks f32 d32)(h112:Fun K "want_of" "House.want_of" s_House_want_of f33 d33)(h113:Fun K "wants_of" "House.wants_of" s_House_wants_of f34 d34)(h114:Fun K "can_keep" "House.can_keep" s_House_can_keep f35 d35)(h115:Fun K "block_now" "House.block_now" s_House_block_now f36 d36)(h116:Fun K "block_with" "House.block_with" s_House_block_with f37 d37)(h117:Fun K "blocks_told" "House.blocks_told" s_House_blocks_told f38 d38)(h118:Fun K "minutes_to_try" "House.minutes_to_try" s_House_minutes_to_try f39 d39)(h119:Fun K "earliest_promise" "House.earliest_promise" s_House_earliest_promise f40 d40)(h120:Fun K "in_trouble" "House.in_trouble" s_House_in_trouble f41 d41)(h121:Fun K "go_on" "House.go_on" s_House_go_on f42 d42)(h122:NS K "block_told" f43)(h123:Fun K "block_told" "block_told" s_block_told f43 d43)(h124:NS K "parties_told" f44)(h125:Fun K "parties_told" "parties_told" s_parties_told f44 d44)(h126:NS K "has_party" f45)(h127:Fun K "has_party" "has_party" s_has_party f45 d45)(h128:NS K "party_refusal" f46)(h129:Fun K "party_refusal" "party_refusal" s_party_refusal f46 d46)(h130:NS K "count_of_tables" f47)(h131:Fun K "count_of_tables" "count_of_tables" s_count_of_tables f47 d47)(h132:NS K "is_full" f48)(h133:Fun K "is_full" "is_full" s_is_full f48 d48)(h134:NS K "open_house" f49)(h135:Fun K "open_house" "open_house" s_open_house f49 d49)(h136:NS K "book" f50)(h137:Fun K "book" "book" s_book f50 d50)(h138:NS K "cancel" f51)(h139:Fun K "cancel" "cancel" s_cancel f51 d51)(h140:NS K "arrive" f52)(h141:Fun K "arrive" "arrive" s_arrive f52 d52)(h142:NS K "walkin" f53)(h143:Fun K "walkin" "walkin" s_walkin f53 d53)(h144:NS K "leave" f54)(h145:Fun K "leave" "leave" s_leave f54 d54)(h146:NS K "stay" f55)(h147:Fun K "stay" "stay" s_stay f55 d55)(h148:NS K "pass_time" f56)(h149:Fun K "pass_time" "pass_time" s_pass_time f56 d56)(h150:NS K "plan" f57)(h151:Fun K "plan" "plan" s_plan f57 d57)(h152:NS K "quote" f58)(h153:Fun K "quote" "quote" s_quote f58 d58)(h154:NS K "trouble" f59)(h155:Fun K "trouble" "trouble" s_trouble f59 d59)(h156:NS K "tell_off" f60)(h157:Fun K "tell_off" "tell_off" s_tell_off f60 d60)(h158:NS K "free_now" f61)(h159:Fun K "free_now" "free_now" s_free_now f61 d61)(h160:NS K "tables_now" f62)(h161:Fun K "tables_now" "tables_now" s_tables_now f62 d62)(h162:NS K "party_now" f63)(h163:Fun K "party_now" "party_now" s_party_now f63 d63)(h164:NS K "state_now" f64)(h165:Fun K "state_now" "state_now" s_state_now f64 d64)(h166:NS K "answer" f65)(h167:Fun K "answer" "answer" s_answer f65 d65)(h168:NS K "answers" f66)(h169:Fun K "answers" "answers" s_answers f66 d66)(h170:NSn K "all")(h171:NSn K "enumerate")(h172:NSn K "len")(h173:NSn K "max")(h174:NSn K "range")(h175:NSn K "set")(h176:NSn K "sorted")(h177:NSn K "sum")(h178:NSn K "zip")(h179:NSi K "LONGEST_ROW" 8 k_LONGEST_ROW)(h180:NSi K "MOST_SEATS" 10 k_MOST_SEATS)(h181:NSi K "PROMISED" 0 k_PROMISED)(h182:NSi K "AT_A_TABLE" 1 k_AT_A_TABLE)(h183:NSi K "LEFT" 2 k_LEFT)(h184:NSi K "CALLED_OFF" 3 k_CALLED_OFF)(h185:NSi K "NEVER_CAME" 4 k_NEVER_CAME)(h186:NSi K "TOLD_OFF" 5 k_TOLD_OFF)(h187:NSi K "OPEN_CALL" 0 k_OPEN_CALL)(h188:NSi K "MOST_TABLES" 8 k_MOST_TABLES)(h189:NSi K "MOST_PARTIES" 60 k_MOST_PARTIES)(h190:NSi K "MOST_PROMISED" 5 k_MOST_PROMISED)(h191:NSi K "LAST_MINUTE" 100000 k_LAST_MINUTE)(h192:NS K "RANGES" g0)(h193:NS K "ROW_COUNTS" g1)(h194:NS K "ANSWERERS" g2)
  : ∃t:Adr,Txt K mg t∧t.f_answers=f66∧t.g_RANGES=g0∧t.g_ROW_COUNTS=g1∧t.g_ANSWERERS=g2:=
 ⟨⟨c0,c1,c2,c3,c4,f0,f1,f2,f3,f4,f5,f6,f7,f8,f9,f10,f11,f12,f13,f14,f15,f16,f17,f18,f19,f20,f21,f22,f23,f24,f25,f26,f27,f28,f29,f30,f31,f32,f33,f34,f35,f36,f37,f38,f39,f40,f41,f42,f43,f44,f45,f46,f47,f48,f49,f50,f51,f52,f53,f54,f55,f56,f57,f58,f59,f60,f61,f62,f63,f64,f65,f66,g0,g1,g2,d0,d1,d2,d3,d4,d5,d6,d7,d8,d9,d10,d11,d12,d13,d14,d15,d16,d17,d18,d19,d20,d21,d22,d23,d24,d25,d26,d27,d28,d29,d30,d31,d32,d33,d34,d35,d36,d37,d38,d39,d40,d41,d42,d43,d44,d45,d46,d47,d48,d49,d50,d51,d52,d53,d54,d55,d56,d57,d58,d59,d60,d61,d62,d63,d64,d65,d66⟩,⟨PySem.W.mg_of X G h0,h1,h2,h3,h4,h5,h6,PySem.W.mg_of X G h7,h8,h9,h10,h11,h12,h13,h14,h15,PySem.W.mg_of X G h16,h17,h18,h19,h20,h21,PySem.W.mg_of X G h22,h23,h24,h25,h26,h27,h28,h29,h30,PySem.W.mg_of X G h31,h32,h33,h34,h35,h36,h37,h38,h39,h40,h41,h42,h43,h44,h45,h46,h47,h48,h49,h50,h51,h52,h53,h54,h55,h56,h57,h58,h59,h60,h61,h62,PySem.W.mg_of X G h63,h64,PySem.W.mg_of X G h65,h66,PySem.W.mg_of X G h67,h68,h69,PySem.W.mg_of X G h70,h71,PySem.W.mg_of X G h72,h73,PySem.W.mg_of X G h74,h75,PySem.W.mg_of X G h76,h77,h78,PySem.W.mg_of X G h79,h80,PySem.W.mg_of X G h81,h82,PySem.W.mg_of X G h83,h84,PySem.W.mg_of X G h85,h86,PySem.W.mg_of X G h87,h88,PySem.W.mg_of X G h89,h90,PySem.W.mg_of X G h91,h92,PySem.W.mg_of X G h93,h94,PySem.W.mg_of X G h95,h96,PySem.W.mg_of X G h97,h98,h99,h100,h101,h102,h103,h104,h105,h106,h107,h108,h109,h110,h111,h112,h113,h114,h115,h116,h117,h118,h119,h120,h121,PySem.W.mg_of X G h122,h123,PySem.W.mg_of X G h124,h125,PySem.W.mg_of X G h126,h127,PySem.W.mg_of X G h128,h129,PySem.W.mg_of X G h130,h131,PySem.W.mg_of X G h132,h133,PySem.W.mg_of X G h134,h135,PySem.W.mg_of X G h136,h137,PySem.W.mg_of X G h138,h139,PySem.W.mg_of X G h140,h141,PySem.W.mg_of X G h142,h143,PySem.W.mg_of X G h144,h145,PySem.W.mg_of X G h146,h147,PySem.W.mg_of X G h148,h149,PySem.W.mg_of X G h150,h151,PySem.W.mg_of X G h152,h153,PySem.W.mg_of X G h154,h155,PySem.W.mg_of X G h156,h157,PySem.W.mg_of X G h158,h159,PySem.W.mg_of X G h160,h161,PySem.W.mg_of X G h162,h163,PySem.W.mg_of X G h164,h165,PySem.W.mg_of X G h166,h167,PySem.W.mg_of X G h168,h169,PySem.W.mg_none_of X G h170,PySem.W.mg_none_of X G h171,PySem.W.mg_none_of X G h172,PySem.W.mg_none_of X G h173,PySem.W.mg_none_of X G h174,PySem.W.mg_none_of X G h175,PySem.W.mg_none_of X G h176,PySem.W.mg_none_of X G h177,PySem.W.mg_none_of X G h178,⟨_,PySem.W.mg_of X G h179⟩,⟨_,PySem.W.mg_of X G h180⟩,⟨_,PySem.W.mg_of X G h181⟩,⟨_,PySem.W.mg_of X G h182⟩,⟨_,PySem.W.mg_of X G h183⟩,⟨_,PySem.W.mg_of X G h184⟩,⟨_,PySem.W.mg_of X G h185⟩,⟨_,PySem.W.mg_of X G h186⟩,⟨_,PySem.W.mg_of X G h187⟩,⟨_,PySem.W.mg_of X G h188⟩,⟨_,PySem.W.mg_of X G h189⟩,⟨_,PySem.W.mg_of X G h190⟩,⟨_,PySem.W.mg_of X G h191⟩,PySem.W.mg_of X G h192,PySem.W.mg_of X G h193,PySem.W.mg_of X G h194⟩,rfl,rfl,rfl,rfl⟩
abbrev nV(n:Nat):V:=V.int (n:Int)
def blkF(row first last seats less tables:Nat):List (Str×V):=[("row",nV row),("first",nV first),("last",nV last),("seats",nV seats),("seats_with_one_less",nV less),("tables",nV tables)]
inductive BlkAt(t:Adr)(H:Hp)(a:Addr)(r:Vbhoae.Room)(b:Vbhoae.Block):Prop
 | mk (dx) (_:H a=some (.ins t.c_Block dx (blkF b.row b.first b.last (Vbhoae.seats r b) (My.less r b) (My.mask r b))))
def wantF(st en:Nat)(ch:Addr):List (Str×V):=[("start",nV st),("end",nV en),("choices",.ref ch)]
inductive WantAt(t:Adr)(H:Hp)(a:Addr)(w:My.Wn):Prop
 | mk (dx c) (_:H a=some (.ins t.c_Want dx (wantF w.st w.en c))) (_:H c=some (.lst (w.ch.map nV)))
inductive WantsAt(t:Adr)(K:PySem.W.Frag)(H:Hp)(l:Addr)(ws:List My.Wn):Prop
 | mk (as:List Addr) (_:SqL K H l (as.map V.ref)) (_:Paired (WantAt t H) as ws)
section
variable {P:Program}{w:World}{K:PySem.W.Frag}{mg:Str→Option Value}{base:Heap}{t:Adr}
inductive spSeats(K:PySem.W.Frag)(vs:List V)(H:Hp)(Q:VK)(_:XK):Prop
 | mk (a:Addr) (l:List Nat) (loss:Nat) (_:vs=[.ref a,nV loss]) (_:SqL K H a (l.map nV)) (_:loss≤3) (_:Q (nV (My.seatsT loss l)) H)
theorem map_nV(l:List Nat):l.map nV=(l.map fun n:Nat=>(n:Int)).map V.int:=by
 rw[List.map_map]
 rfl
theorem sum_cast: ∀l:List Nat,(l.map fun n:Nat=>(n:Int)).sum =((l.sum:Nat):Int)
 | []=>rfl
 | a::l=>by
  rw[List.map_cons,List.sum_cons,List.sum_cons,sum_cast l]
  omega
theorem seats_int(loss:Nat)(l:List Nat)(h:l≠ []):(if ((l.sum:Nat):Int)-(loss:Int)*(((l.length:Nat):Int)-1)>0 then((l.sum:Nat):Int)-(loss:Int)*(((l.length:Nat):Int)-1)else 0)=((My.seatsT loss l:Nat):Int):=by
 have e1:My.seatsT loss l=l.sum-loss*(l.length-1):=by
  unfold My.seatsT
  rw[if_neg h]
 have e2:((l.length:Nat):Int)-1=((l.length-1:Nat):Int):=by
  have:=List.length_pos_iff.mpr h
  omega
 rw[e1,e2,←Int.natCast_mul]
 generalize loss*(l.length-1)=M
 split<;>omega
theorem ok_seats_together(T:Txt K mg t):FnOk P w K mg base CX0 1 t.f_seats_together t.d_seats_together ["tables","loss"] (spSeats K):=by
 refine T.fu_seats_together.ok sc_seats_together (fun vs H Q E h=>?_) (fun cdv A outer s H vs Q E hr h=>?_)
 ·obtain⟨a,l,loss,rfl,_⟩:=h
  rfl
 ·obtain⟨a,l,loss,rfl,hl,hs,q⟩:=h
  refine⟨_,pss_cons (ps_if (pt_not (pt_truth (pv 0) (fun _=>rfl))) (pss_one (ps_ret pe_int)) pss_nil)
   (pss_one (ps_ret (pe_callB (call_max2 rfl) rfl T.bn_max PyProof.Rows.boot_max (pa_cons pe_int (pa_cons (pe_op op_sub (pe_callB (call_sumL rfl) rfl T.bn_sum PyProof.Rows.boot_sum (pa_cons (pv 0) pa_nil))
    (pe_op op_mul (pv 1) (pe_op op_sub (pe_callB call_len_seq rfl T.bn_len PySem.boot_len (pa_cons (pv 0) pa_nil)) pe_int))) pa_nil))))),?_⟩
  refine⟨_,rfl,_,.inl ⟨_,hl,rfl⟩,?_⟩
  cases l with
  | nil=>exact iteT q
  | cons x l=>
   refine iteF ?_
   rw[map_nV]at hl
   refine⟨_,rfl,a,_,rfl,hl,_,rfl,_,rfl,a,_,rfl,.inl hl,_,_,rfl,rfl,_,_,rfl,rfl,.inl ⟨by omega,by omega⟩,_,_,rfl,rfl,_,_,rfl,?_⟩
   rw[List.length_map,List.length_map,sum_cast,seats_int loss (x::l) (by simp)]
   exact q
end
inductive spFill(C:Addr)(names:List Str)(vs:List V)(H:Hp)(Q:VK)(_:XK):Prop
 | mk (p dx:Addr) (us:List V) (_:vs= .ref p::us) (_:us.length=names.length) (_:H p=some (.ins C dx [])) (_: ∀H':Hp,H' p=some (.ins C dx (names.zip us))→(∀b o,H b=some o→b≠p→H' b=some o)→Q .non H')
section
variable {P:Program}{w:World}{K:PySem.W.Frag}{mg:Str→Option Value}{base:Heap}{t:Adr}
theorem ok_Call_init(T:Txt K mg t):FnOk P w K mg base CX0 1 t.f_Call_init t.d_Call_init ["self","number","numbers","rows","place_behind"] (spFill t.c_Call ["number","numbers","rows","place_behind"]):=by
 refine T.fu_Call_init.ok sc_Call_init (fun vs H Q E h=>?_) (fun cdv A outer s H vs Q E hr h=>?_)
 ·obtain⟨p,dx,us,rfl,hl,_⟩:=h
  exact congrArg (· +1) hl
 ·obtain⟨p,dx,us,rfl,hl,hp,k⟩:=h
  match us,hl with
  | [v1,v2,v3,v4],_=>
   refine⟨_,pss_cons (ps_fld (pv 0) (pv 1) rfl) (pss_cons (ps_fld (pv 0) (pv 2) rfl) (pss_cons (ps_fld (pv 0) (pv 3) rfl) (pss_one (ps_fld (pv 0) (pv 4) rfl)))),?_⟩
   refine⟨_,rfl,_,rfl,p,t.c_Call,dx,_,rfl,hp,T.cl_Call,T.no_Call_number,(by show 0<1000;decide),?_⟩
   refine⟨_,rfl,_,rfl,p,t.c_Call,dx,_,rfl,upd_same,T.cl_Call,T.no_Call_numbers,(by show 1<1000;decide),?_⟩
   refine⟨_,rfl,_,rfl,p,t.c_Call,dx,_,rfl,upd_same,T.cl_Call,T.no_Call_rows,(by show 2<1000;decide),?_⟩
   refine⟨_,rfl,_,rfl,p,t.c_Call,dx,_,rfl,upd_same,T.cl_Call,T.no_Call_place_behind,(by show 3<1000;decide),?_⟩
   exact k _ (Eq.trans upd_same rfl) fun b o e hb=>by
    rw[upd_ne hb,upd_ne hb,upd_ne hb,upd_ne hb]
    exact e
theorem ok_Block_init(T:Txt K mg t):FnOk P w K mg base CX0 1 t.f_Block_init t.d_Block_init ["self","row","first","last","seats","seats_with_one_less","tables"] (spFill t.c_Block ["row","first","last","seats","seats_with_one_less","tables"]):=by
 refine T.fu_Block_init.ok sc_Block_init (fun vs H Q E h=>?_) (fun cdv A outer s H vs Q E hr h=>?_)
 ·obtain⟨p,dx,us,rfl,hl,_⟩:=h
  exact congrArg (· +1) hl
 ·obtain⟨p,dx,us,rfl,hl,hp,k⟩:=h
  match us,hl with
  | [v1,v2,v3,v4,v5,v6],_=>
   refine⟨_,pss_cons (ps_fld (pv 0) (pv 1) rfl) (pss_cons (ps_fld (pv 0) (pv 2) rfl) (pss_cons (ps_fld (pv 0) (pv 3) rfl) (pss_cons (ps_fld (pv 0) (pv 4) rfl) (pss_cons (ps_fld (pv 0) (pv 5) rfl) (pss_one (ps_fld (pv 0) (pv 6) rfl)))))),?_⟩
   refine⟨_,rfl,_,rfl,p,t.c_Block,dx,_,rfl,hp,T.cl_Block,T.no_Block_row,(by show 0<1000;decide),?_⟩
   refine⟨_,rfl,_,rfl,p,t.c_Block,dx,_,rfl,upd_same,T.cl_Block,T.no_Block_first,(by show 1<1000;decide),?_⟩
   refine⟨_,rfl,_,rfl,p,t.c_Block,dx,_,rfl,upd_same,T.cl_Block,T.no_Block_last,(by show 2<1000;decide),?_⟩
   refine⟨_,rfl,_,rfl,p,t.c_Block,dx,_,rfl,upd_same,T.cl_Block,T.no_Block_seats,(by show 3<1000;decide),?_⟩
   refine⟨_,rfl,_,rfl,p,t.c_Block,dx,_,rfl,upd_same,T.cl_Block,T.no_Block_seats_with_one_less,(by show 4<1000;decide),?_⟩
   refine⟨_,rfl,_,rfl,p,t.c_Block,dx,_,rfl,upd_same,T.cl_Block,T.no_Block_tables,(by show 5<1000;decide),?_⟩
   exact k _ (Eq.trans upd_same rfl) fun b o e hb=>by
    rw[upd_ne hb,upd_ne hb,upd_ne hb,upd_ne hb,upd_ne hb,upd_ne hb]
    exact e
theorem ok_Want_init(T:Txt K mg t):FnOk P w K mg base CX0 1 t.f_Want_init t.d_Want_init ["self","start","end","choices"] (spFill t.c_Want ["start","end","choices"]):=by
 refine T.fu_Want_init.ok sc_Want_init (fun vs H Q E h=>?_) (fun cdv A outer s H vs Q E hr h=>?_)
 ·obtain⟨p,dx,us,rfl,hl,_⟩:=h
  exact congrArg (· +1) hl
 ·obtain⟨p,dx,us,rfl,hl,hp,k⟩:=h
  match us,hl with
  | [v1,v2,v3],_=>
   refine⟨_,pss_cons (ps_fld (pv 0) (pv 1) rfl) (pss_cons (ps_fld (pv 0) (pv 2) rfl) (pss_one (ps_fld (pv 0) (pv 3) rfl))),?_⟩
   refine⟨_,rfl,_,rfl,p,t.c_Want,dx,_,rfl,hp,T.cl_Want,T.no_Want_start,(by show 0<1000;decide),?_⟩
   refine⟨_,rfl,_,rfl,p,t.c_Want,dx,_,rfl,upd_same,T.cl_Want,T.no_Want_end,(by show 1<1000;decide),?_⟩
   refine⟨_,rfl,_,rfl,p,t.c_Want,dx,_,rfl,upd_same,T.cl_Want,T.no_Want_choices,(by show 2<1000;decide),?_⟩
   exact k _ (Eq.trans upd_same rfl) fun b o e hb=>by
    rw[upd_ne hb,upd_ne hb,upd_ne hb]
    exact e
theorem ok_Party_init(T:Txt K mg t):FnOk P w K mg base CX0 1 t.f_Party_init t.d_Party_init ["self","number","size","time_from","time_to","stage","block"] (spFill t.c_Party ["number","size","time_from","time_to","stage","block"]):=by
 refine T.fu_Party_init.ok sc_Party_init (fun vs H Q E h=>?_) (fun cdv A outer s H vs Q E hr h=>?_)
 ·obtain⟨p,dx,us,rfl,hl,_⟩:=h
  exact congrArg (· +1) hl
 ·obtain⟨p,dx,us,rfl,hl,hp,k⟩:=h
  match us,hl with
  | [v1,v2,v3,v4,v5,v6],_=>
   refine⟨_,pss_cons (ps_fld (pv 0) (pv 1) rfl) (pss_cons (ps_fld (pv 0) (pv 2) rfl) (pss_cons (ps_fld (pv 0) (pv 3) rfl) (pss_cons (ps_fld (pv 0) (pv 4) rfl) (pss_cons (ps_fld (pv 0) (pv 5) rfl) (pss_one (ps_fld (pv 0) (pv 6) rfl)))))),?_⟩
   refine⟨_,rfl,_,rfl,p,t.c_Party,dx,_,rfl,hp,T.cl_Party,T.no_Party_number,(by show 0<1000;decide),?_⟩
   refine⟨_,rfl,_,rfl,p,t.c_Party,dx,_,rfl,upd_same,T.cl_Party,T.no_Party_size,(by show 1<1000;decide),?_⟩
   refine⟨_,rfl,_,rfl,p,t.c_Party,dx,_,rfl,upd_same,T.cl_Party,T.no_Party_time_from,(by show 2<1000;decide),?_⟩
   refine⟨_,rfl,_,rfl,p,t.c_Party,dx,_,rfl,upd_same,T.cl_Party,T.no_Party_time_to,(by show 3<1000;decide),?_⟩
   refine⟨_,rfl,_,rfl,p,t.c_Party,dx,_,rfl,upd_same,T.cl_Party,T.no_Party_stage,(by show 4<1000;decide),?_⟩
   refine⟨_,rfl,_,rfl,p,t.c_Party,dx,_,rfl,upd_same,T.cl_Party,T.no_Party_block,(by show 5<1000;decide),?_⟩
   exact k _ (Eq.trans upd_same rfl) fun b o e hb=>by
    rw[upd_ne hb,upd_ne hb,upd_ne hb,upd_ne hb,upd_ne hb,upd_ne hb]
    exact e
theorem WantAt.same{H H':Hp}{a:Addr}{v:My.Wn}(s:Same H H')(h:WantAt t H a v):WantAt t H' a v:=by
 obtain⟨dx,c,h1,h2⟩:=h
 exact⟨dx,c,s _ _ h1,s _ _ h2⟩
theorem WantsAt.same{H H':Hp}{l:Addr}{ws:List My.Wn}(s:Same H H')(h:WantsAt t K H l ws):WantsAt t K H' l ws:=by
 obtain⟨as,h1,h2⟩:=h
 exact⟨as,s.seq h1,Paired.mapP h2 fun _ _ q=>q.same s⟩
theorem paired_at{α β:Type}{R:α→β→Prop}: ∀{as:List α} {bs:List β} {i:Nat} {a:α},Paired R as bs→as[i]? =some a→ ∃b,bs[i]? =some b∧R a b
 | _,_,i,_,.nil,e=>by simp at e
 | _,_,0,_,.cons r _,e=>by
  simp at e
  subst e
  exact⟨_,rfl,r⟩
 | _,_,i+1,_,.cons _ p,e=>by
  obtain⟨b,h1,h2⟩:=paired_at (i:=i) p (by simpa using e)
  exact⟨b,by simpa using h1,h2⟩
theorem paired_snoc{α β:Type}{R:α→β→Prop}{a:α}{b:β}(r:R a b): ∀{as:List α} {bs:List β},Paired R as bs→Paired R (as++[a]) (bs++[b])
 | _,_,.nil => .cons r .nil
 | _,_,.cons q p=> .cons q (paired_snoc r p)
inductive WantOff(t:Adr)(q:Addr)(H:Hp)(a:Addr)(v:My.Wn):Prop
 | mk (dx c) (_:a≠q) (_:c≠q) (_:H a=some (.ins t.c_Want dx (wantF v.st v.en c))) (_:H c=some (.lst (v.ch.map nV)))
theorem WantOff.want{q:Addr}{H:Hp}{a:Addr}{v:My.Wn}(h:WantOff t q H a v):WantAt t H a v:=by
 obtain⟨dx,c,_,_,h1,h2⟩:=h
 exact⟨dx,c,h1,h2⟩
theorem WantOff.upd{q:Addr}{H:Hp}{a:Addr}{v:My.Wn}{o:HO}(h:WantOff t q H a v):WantOff t q (upd H q o) a v:=by
 obtain⟨dx,c,n1,n2,h1,h2⟩:=h
 exact⟨dx,c,n1,n2,by rw[upd_ne n1];exact h1,by rw[upd_ne n2];exact h2⟩
theorem WantOff.same{q:Addr}{H H':Hp}{a:Addr}{v:My.Wn}(s:Same H H')(h:WantOff t q H a v):WantOff t q H' a v:=by
 obtain⟨dx,c,n1,n2,h1,h2⟩:=h
 exact⟨dx,c,n1,n2,s _ _ h1,s _ _ h2⟩
theorem WantAt.off{q:Addr}{H:Hp}{a:Addr}{v:My.Wn}(hq:H q=none)(h:WantAt t H a v):WantOff t q H a v:=by
 obtain⟨dx,c,h1,h2⟩:=h
 exact⟨dx,c,ne_of_none h1 hq,ne_of_none h2 hq,h1,h2⟩
theorem Same.new{H:Hp}{q:Addr}{o:HO}(hq:H q=none):Same H (upd H q o):=fun b u e=>by
 rw[upd_ne (ne_of_none e hq)]
 exact e
inductive WantF(t:Adr)(F:Addr→Prop)(H:Hp)(a:Addr)(v:My.Wn):Prop
 | mk (dx c) (_: ¬F a) (_: ¬F c) (_:H a=some (.ins t.c_Want dx (wantF v.st v.en c))) (_:H c=some (.lst (v.ch.map nV)))
theorem WantF.want{F:Addr→Prop}{H:Hp}{a:Addr}{v:My.Wn}(h:WantF t F H a v):WantAt t H a v:=by
 obtain⟨dx,c,_,_,h1,h2⟩:=h
 exact⟨dx,c,h1,h2⟩
theorem WantF.less{F G:Addr→Prop}{H:Hp}{a:Addr}{v:My.Wn}(h:WantF t F H a v)(q: ∀x,G x→F x):WantF t G H a v:=by
 obtain⟨dx,c,n1,n2,h1,h2⟩:=h
 exact⟨dx,c,fun z=>n1 (q _ z),fun z=>n2 (q _ z),h1,h2⟩
theorem WantF.upd{F:Addr→Prop}{q:Addr}{H:Hp}{a:Addr}{v:My.Wn}{o:HO}(hq:F q)(h:WantF t F H a v):WantF t F (upd H q o) a v:=by
 obtain⟨dx,c,n1,n2,h1,h2⟩:=h
 exact⟨dx,c,n1,n2,by rw[upd_ne fun z=>n1 (by rw[z];exact hq)];exact h1,by rw[upd_ne fun z=>n2 (by rw[z];exact hq)];exact h2⟩
theorem WantF.same{F:Addr→Prop}{H H':Hp}{a:Addr}{v:My.Wn}(s:Same H H')(h:WantF t F H a v):WantF t F H' a v:=by
 obtain⟨dx,c,n1,n2,h1,h2⟩:=h
 exact⟨dx,c,n1,n2,s _ _ h1,s _ _ h2⟩
theorem WantF.off{F:Addr→Prop}{q:Addr}{H:Hp}{a:Addr}{v:My.Wn}(hq:H q=none)(h:WantF t F H a v):WantF t (fun x=>x=q∨F x) H a v:=by
 obtain⟨dx,c,n1,n2,h1,h2⟩:=h
 exact⟨dx,c,fun z=>z.elim (ne_of_none h1 hq) n1,fun z=>z.elim (ne_of_none h2 hq) n2,h1,h2⟩
theorem WantAt.none{H:Hp}{a:Addr}{v:My.Wn}(h:WantAt t H a v):WantF t (fun _=>False) H a v:=by
 obtain⟨dx,c,h1,h2⟩:=h
 exact⟨dx,c,id,id,h1,h2⟩
inductive WantsF(t:Adr)(K:PySem.W.Frag)(F:Addr→Prop)(H:Hp)(l:Addr)(ws:List My.Wn):Prop
 | mk (as:List Addr) (_:SqL K H l (as.map V.ref)) (_:Paired (WantF t F H) as ws)
inductive spCount(t:Adr)(vs:List V)(H:Hp)(Q:VK)(_:XK):Prop
 | mk (a:Addr) (v:My.Wn) (_:vs=[.ref a]) (_:WantAt t H a v) (_:Q (nV v.ch.length) H)
theorem ok_count_of_choices(T:Txt K mg t):FnOk P w K mg base CX0 1 t.f_count_of_choices t.d_count_of_choices ["want"] (spCount t):=by
 refine T.fu_count_of_choices.ok sc_count_of_choices (fun vs H Q E h=>?_) (fun cdv A outer s H vs Q E hr h=>?_)
 ·obtain⟨a,v,rfl,_⟩:=h
  rfl
 ·obtain⟨a,v,rfl,⟨dx,c,h1,h2⟩,q⟩:=h
  refine⟨_,pss_one (ps_ret (pe_callB call_len_seq rfl T.bn_len PySem.boot_len (pa_cons (pe_fld (pv 0) rfl) pa_nil))),?_⟩
  refine⟨_,rfl,a,t.c_Want,dx,_,_,rfl,h1,T.cl_Want,T.no_Want_choices,rfl,c,_,rfl,.inl (SqL.of h2),?_⟩
  rw[List.length_map]
  exact q
inductive spBesideF(t:Adr)(K:PySem.W.Frag)(vs:List V)(H:Hp)(Q:VK)(_:XK):Prop
 | mk (l:Addr) (ws:List My.Wn) (st en tb:Nat) (F:Addr→Prop) (_:vs=[.ref l,nV st,nV en,nV tb]) (_:WantsF t K F H l ws) (_:(∀x,F x→H x≠none)) (_:(∀v∈ws,v.ch.length≤1000)) (_:ws.length≤1000) (_: ∀(H':Hp) (l':Addr),Same H H'→H l'=none→WantsF t K F H' l' (My.beside ws st en tb)→Q (.ref l') H')
theorem and_nat(a b:Nat):Builtin.bitAnd (a:Int) (b:Int)=((a &&& b:Nat):Int):=by
 rw[PyProof.Rows.bitAnd_pp (by omega) (by omega)]
 rfl
theorem ok_wants_besideF(T:Txt K mg t):FnOk P w K mg base CX0 3 t.f_wants_beside t.d_wants_beside ["wants","start","end","tables"] (spBesideF t K):=by
 refine T.fu_wants_beside.ok sc_wants_beside (fun vs H Q E h=>?_) (fun cdv A outer s H vs Q E hr h=>?_)
 ·obtain⟨l,ws,st,en,tb,F,rfl,_⟩:=h
  rfl
 ·obtain⟨l,ws,st,en,tb,F,rfl,⟨as,hS,hP⟩,hF,hch,hws,k⟩:=h
  have inF: ∀(q x:Addr) (H2:Hp) (o:HO),Same H H2→H2 q=some o→H2 x=none→ ¬(x=q∨F x):=fun q x H2 o s e n z=>z.elim (fun z=>by rw[z,e]at n;cases n) fun z=>hF x z (by
   cases e2:H x with
   | none=>rfl
   | some u=>rw[s _ _ e2]at n;cases n)
  have nd:=sc_wants_beside.nd
  refine⟨_,pss_cons (ps_set (i:=4) nd rfl (Or.inl rfl) (pe_lst pa_nil))
   (pss_cons (ps_for PassesOwn.never rfl (pi_list (pv 0)) (pg_name (i:=5) nd rfl (Or.inl rfl))
    (pss_one (ps_if (pw_and (pt_cmpR op_lt (pe_fld (pv 5) rfl) (pv 2) (nomark _)) (pw_and1 (pt_cmpR op_lt (pv 1) (pe_fld (pv 5) rfl) (nomark _)))).pt
     (pss_cons (ps_setLc (i:=6) (own:=[("choice",7)]) rfl nd rfl rfl (sw_true rfl rfl rfl rfl) (pi_list (pe_fld (pv 5) rfl)) (show BlkOk n_wants_beside (defScope s_wants_beside) _ _ from blk_of (by decide +kernel))
       (fun _ _ _ _ _=>pg_name (i:=7) nd rfl (Or.inl rfl))
       (fun _ _ _ _ _=>pts_one (pt_not (bk_truth (pe_op op_and (pv 7) (pv 3)) (fun _=>rfl))))
       (fun _ _ _ _ _=>pv 7))
      (pss_one (ps_expr (pe_bm PySem.F.plainAttrs_list PySem.F.slot_list_append PySem.F.type_list_append mt_append (pv 4)
       (pa_cons (pe_make T.mk_Want (ok_Want_init T) (hr.mono (by decide)) rfl T.mg_Want T.bi_Want_init .nil pass0 (pa_cons (pe_fld (pv 5) rfl) (pa_cons (pe_fld (pv 5) rfl) (pa_cons (pv 6) pa_nil)))) pa_nil)))))
     (pss_one (ps_expr (pe_bm PySem.F.plainAttrs_list PySem.F.slot_list_append PySem.F.type_list_append mt_append (pv 4) (pa_cons (pv 5) pa_nil)))))))
   (pss_one (ps_ret (pv 4)))),?_⟩
  refine⟨Nat.zero_le _,fun q hq=>?_⟩
  have s1:Same H (upd H q (.lst [])):=Same.new hq
  refine⟨_,rfl,l,rfl,⟨_,s1.seq hS⟩,for_list (K:=K) (a:=l) (xs:=as.map V.ref) (fun i σ H'=> ∃v5 v6 v7:Option V,σ=[some (.ref l),some (nV st),some (nV en),some (nV tb),some (.ref q),v5,v6,v7]∧Same H H'∧
    ∃bs:List Addr,H' q=some (.lst (bs.map V.ref))∧Paired (WantF t (fun x=>x=q∨F x) H') bs (My.beside (ws.take i) st en tb))
   ⟨none,none,none,rfl,s1,[],upd_same,.nil⟩ (fun i σ H' _ ⟨_,_,_,_,s5,_⟩=>s5.seq hS) ?_ ?_⟩
  ·rintro i y σ H' hi ⟨v5,v6,v7,rfl,s5,bs,hb,pb⟩
   rw[List.getElem?_map]at hi
   obtain⟨a,ha,rfl⟩:=Option.map_eq_some_iff.mp hi
   obtain⟨v,hv,wa⟩:=paired_at hP ha
   have hvm:v∈ws:=List.mem_of_getElem? hv
   have wo:WantF t (fun x=>x=q∨F x) H' a v:=(wa.off hq).same s5
   obtain⟨dx,c,na,nc,h1,h2⟩:=id wo
   have blen:bs.length≤1000:=by
    have:=Paired.length pb
    unfold My.beside at this
    rw[List.length_map,List.length_take]at this
    omega
   have blen2:(bs.map V.ref).length <sizeLine:=by
    rw[List.length_map]
    exact small1000 blen
   have etake:My.beside (ws.take (i+1)) st en tb=My.beside (ws.take i) st en tb++[My.besideOne st en tb v]:=by
    unfold My.beside
    rw[List.take_add_one,hv,List.map_append]
    rfl
   have put: ∀(H2:Hp) (b:Addr) (σ2:List (Option V)),(∃v5 v6 v7:Option V,σ2=[some (.ref l),some (nV st),some (nV en),some (nV tb),some (.ref q),v5,v6,v7])→Same H' H2→WantF t (fun x=>x=q∨F x) H2 b (My.besideOne st en tb v)→
     ∃v5 v6 v7:Option V,σ2=[some (.ref l),some (nV st),some (nV en),some (nV tb),some (.ref q),v5,v6,v7]∧Same H (upd H2 q (.lst (bs.map V.ref++[.ref b])))∧
     ∃bs2:List Addr,upd H2 q (.lst (bs.map V.ref++[.ref b])) q=some (.lst (bs2.map V.ref))∧Paired (WantF t (fun x=>x=q∨F x) (upd H2 q (.lst (bs.map V.ref++[.ref b])))) bs2 (My.beside (ws.take (i+1)) st en tb):=by
    rintro H2 b σ2 ⟨v5,v6,v7,e⟩ s6 hw
    refine⟨v5,v6,v7,e,fun x o ex=>by rw[upd_ne (ne_of_none ex hq)];exact s6 x o (s5 x o ex),bs++[b],by rw[upd_same,List.map_append];rfl,?_⟩
    rw[etake]
    exact paired_snoc (hw.upd (.inl rfl)) (Paired.mapP pb fun x u hu=>(hu.same s6).upd (.inl rfl))
   have other: ¬(v.st<en∧st<v.en)→WantF t (fun x=>x=q∨F x) H' a (My.besideOne st en tb v):=fun hno=>by
    unfold My.besideOne
    rw[if_neg hno]
    exact wo
   refine⟨_,rfl,a,t.c_Want,dx,_,_,rfl,h1,T.cl_Want,T.no_Want_start,rfl,_,rfl,_,_,rfl,rfl,_,rfl,?_⟩
   refine ite2 (fun c1=>?_) (fun c1=>?_)
   ·refine⟨_,rfl,_,rfl,a,t.c_Want,dx,_,_,rfl,h1,T.cl_Want,T.no_Want_end,rfl,_,_,rfl,rfl,_,rfl,?_⟩
    refine ite2 (fun c2=>?_) (fun c2=>?_)
    ·have hov:v.st<en∧st<v.en:=⟨by have:=of_decide_eq_true c1;omega,by have:=of_decide_eq_true c2;omega⟩
     refine⟨_,rfl,a,t.c_Want,dx,_,_,rfl,h1,T.cl_Want,T.no_Want_choices,rfl,c,rfl,⟨_,SqL.of h2⟩,fun D hD=>?_⟩
     have nDq:q≠D:=ne_of_none hb hD
     refine lc_list (K:=K) (a:=c) (xs:=v.ch.map nV) (fun j H2=>H2=upd H' D (.lst (((v.ch.take j).filter fun x=>decide (x &&& tb=0)).map nV))) rfl (fun j H2 _ e=>?_) ?_ ?_
     ·rw[e]
      exact(Same.new hD).seq (SqL.of h2)
     ·rintro j x H2 hj e
      rw[List.getElem?_map]at hj
      obtain⟨z,hz,rfl⟩:=Option.map_eq_some_iff.mp hj
      subst e
      refine⟨rfl,_,rfl,_,rfl,_,_,rfl,rfl,_,rfl,?_⟩
      rw[and_nat]
      have et:(v.ch.take (j+1)).filter (fun x=>decide (x &&& tb=0))=(v.ch.take j).filter (fun x=>decide (x &&& tb=0))++[z].filter (fun x=>decide (x &&& tb=0)):=by
       rw[List.take_add_one,hz,List.filter_append]
       rfl
      by_cases h0:z &&& tb=0
      ·have eb:(((z &&& tb:Nat):Int) != 0)=false:=by rw[h0];rfl
       rw[eb]
       refine iteT ⟨_,rfl,_,upd_same,?_,?_⟩
       ·rw[List.length_map]
        refine small1000 (Nat.le_trans (List.length_filter_le ..) ?_)
        rw[List.length_take]
        have:=hch v hvm
        omega
       ·rw[upd_upd,et,List.filter_cons,if_pos (decide_eq_true h0),List.map_append]
        rfl
      ·have eb:(((z &&& tb:Nat):Int) != 0)=true:=bne_iff_ne.mpr (by omega)
       rw[eb]
       refine iteF ?_
       rw[et,List.filter_cons,if_neg (by simpa using h0),List.filter_nil,List.append_nil]
     ·rintro H2 e
      rw[List.length_map,List.take_length]at e
      subst e
      have s6:Same H' (upd H' D (.lst ((v.ch.filter fun x=>decide (x &&& tb=0)).map nV))):=Same.new hD
      have hb6:=s6 _ _ hb
      have g1:=s6 _ _ h1
      refine⟨_,rfl,.inl ⟨rfl,_,SqL.of hb6⟩,_,rfl,a,t.c_Want,dx,_,_,rfl,g1,T.cl_Want,T.no_Want_start,rfl,_,rfl,a,t.c_Want,dx,_,_,rfl,g1,T.cl_Want,T.no_Want_end,rfl,_,rfl,?_⟩
      intro x dy nx ny nxy
      refine⟨x,dy,_,rfl,rfl,upd_same,fun H3 hx kp=>⟨rfl,?_⟩⟩
      have s7:Same (upd H' D (.lst ((v.ch.filter fun x=>decide (x &&& tb=0)).map nV))) H3:=Same.made nx ny kp
      refine⟨q,_,_,rfl,rfl,s7 _ _ hb6,blen2,?_⟩
      refine put H3 x _ ⟨_,_,_,rfl⟩ (s6.trans s7) ⟨dy,D,?_,inF q D H' _ s5 hb hD,?_,s7 _ _ ?_⟩
      ·exact inF q x _ _ (s5.trans s6) hb6 nx
      ·unfold My.besideOne
       rw[if_pos hov]
       exact hx
      ·unfold My.besideOne
       rw[if_pos hov]
       exact upd_same
    ·refine⟨_,rfl,.inl ⟨rfl,_,SqL.of hb⟩,_,rfl,q,_,_,rfl,rfl,hb,blen2,?_⟩
     exact put H' a _ ⟨_,_,_,rfl⟩ (Same.refl _) (other fun z=>c2 (decide_eq_true (by omega)))
   ·refine iteF ?_
    refine⟨_,rfl,.inl ⟨rfl,_,SqL.of hb⟩,_,rfl,q,_,_,rfl,rfl,hb,blen2,?_⟩
    exact put H' a _ ⟨_,_,_,rfl⟩ (Same.refl _) (other fun z=>c1 (decide_eq_true (by omega)))
  ·rintro σ H' ⟨v5,v6,v7,rfl,s5,bs,hb,pb⟩
   rw[List.length_map]at pb
   have e:ws.take as.length=ws:=by
    have:=Paired.length hP
    rw[this,List.take_length]
   rw[e]at pb
   exact⟨_,rfl,k H' q s5 hq ⟨bs,SqL.of hb,Paired.mapP pb fun _ _ h=>h.less fun _ z=> .inr z⟩⟩
inductive spBeside(t:Adr)(K:PySem.W.Frag)(vs:List V)(H:Hp)(Q:VK)(_:XK):Prop
 | mk (l:Addr) (ws:List My.Wn) (st en tb:Nat) (_:vs=[.ref l,nV st,nV en,nV tb]) (_:WantsAt t K H l ws) (_:(∀v∈ws,v.ch.length≤1000)) (_:ws.length≤1000) (_: ∀(H':Hp) (l':Addr),Same H H'→H l'=none→WantsAt t K H' l' (My.beside ws st en tb)→Q (.ref l') H')
theorem ok_wants_beside(T:Txt K mg t):FnOk P w K mg base CX0 3 t.f_wants_beside t.d_wants_beside ["wants","start","end","tables"] (spBeside t K):=by
 refine(ok_wants_besideF T).imp fun vs H Q E h=>?_
 obtain⟨l,ws,st,en,tb,e,⟨as,hS,hP⟩,h1,h2,k⟩:=h
 refine⟨l,ws,st,en,tb,fun _=>False,e,⟨as,hS,Paired.mapP hP fun _ _ q=>q.none⟩,fun _ z=>z.elim,h1,h2,fun H' l' s n w=>k H' l' s n ?_⟩
 obtain⟨bs,w1,w2⟩:=w
 exact⟨bs,w1,Paired.mapP w2 fun _ _ q=>q.want⟩
theorem paired_perm{α β:Type}{R:α→β→Prop}{as bs:List α}(h:as.Perm bs): ∀{ws:List β},Paired R as ws→ ∃ws',ws.Perm ws'∧Paired R bs ws':=by
 induction h with
 | nil=>exact fun p=>⟨_,.refl _,p⟩
 | cons x _ ih=>
  intro ws p
  cases p with
  | cons r q=>
   obtain⟨ws',h1,h2⟩:=ih q
   exact⟨_,h1.cons _,.cons r h2⟩
 | swap x y l=>
  intro ws p
  cases p with
  | cons r q=>
   cases q with
   | cons r2 q2=>exact⟨_,.swap ..,.cons r2 (.cons r q2)⟩
 | trans _ _ ih1 ih2=>
  intro ws p
  obtain⟨w1,h1,p1⟩:=ih1 p
  obtain⟨w2,h2,p2⟩:=ih2 p1
  exact⟨w2,h1.trans h2,p2⟩
theorem sortedA_perm{ks:List Int}{as bs:List Addr}(hl:ks.length=as.length)(h:SortedA ks as bs):as.Perm bs:=by
 obtain⟨ps,p,e,_⟩:=h
 have q:=p.map Prod.snd
 rw[List.map_snd_zip (by omega)]at q
 rw[e]
 exact q.symm
theorem cut1(x:V)(r:List V):cutV (x::r) (some 1) none=r:=by
 unfold cutV HT.sIx
 simp
inductive spCan(t:Adr)(K:PySem.W.Frag)(n:Nat)(vs:List V)(H:Hp)(Q:VK)(_:XK):Prop
 | mk (l:Addr) (ws:List My.Wn) (_:vs=[.ref l]) (_:WantsAt t K H l ws) (_:(∀v∈ws,v.ch.length≤1000)) (_:ws.length≤n) (_:n≤1000) (_: ∀(H':Hp) (b:Bool),Same H H'→(b=true↔My.Giv ws)→Q (.bl b) H')
theorem ok_can_all_be_given(T:Txt K mg t): ∀n:Nat,FnOk P w K mg base CX0 (n+5) t.f_can_all_be_given t.d_can_all_be_given ["wants"] (spCan t K n):=by
 intro n
 induction n with
 | zero=>
  refine T.fu_can_all_be_given.ok sc_can_all_be_given (fun vs H Q E h=>?_) (fun cdv A outer s H vs Q E hr h=>?_)
  ·obtain⟨l,ws,rfl,_⟩:=h
   rfl
  ·obtain⟨l,ws,rfl,⟨as,hS,hP⟩,hch,hn,hn2,k⟩:=h
   have e:ws=[]:=List.length_eq_zero_iff.mp (by omega)
   subst e
   cases hP
   refine⟨_,pss_cons (ps_if (pt_not (pt_truth (pv 0) (fun _=>rfl))) (pss_one (ps_ret pe_bl)) pss_nil) pss_never,?_⟩
   refine⟨_,rfl,_,.inl ⟨_,hS,rfl⟩,?_⟩
   exact iteT (k H true (Same.refl _) ⟨fun _=>My.giv_nil,fun _=>rfl⟩)
 | succ n ih=>
  refine T.fu_can_all_be_given.ok sc_can_all_be_given (fun vs H Q E h=>?_) (fun cdv A outer s H vs Q E hr h=>?_)
  ·obtain⟨l,ws,rfl,_⟩:=h
   rfl
  ·obtain⟨l,ws,rfl,⟨as,hS,hP⟩,hch,hn,hn2,k⟩:=h
   have nd:=sc_can_all_be_given.nd
   refine⟨_,pss_cons (ps_if (pt_not (pt_truth (pv 0) (fun _=>rfl))) (pss_one (ps_ret pe_bl)) pss_nil)
    (pss_cons (ps_set (i:=1) nd rfl (Or.inl rfl) (pe_sortK (ok_count_of_choices T) (hr.mono (by omega)) T.bi_count_of_choices rfl T.bn_sorted rfl T.mg_count_of_choices (pa_cons (pv 0) pa_nil)))
    (pss_cons (ps_set (i:=2) nd rfl (Or.inl rfl) (pe_ix ix_list (pv 1) pe_int (fun _ _=>rfl)))
    (pss_cons (ps_for PassesOwn.never rfl (pi_list (pe_fld (pv 2) rfl)) (pg_name (i:=3) nd rfl (Or.inl rfl))
     (pss_one (ps_if (pt_val (pe_call ih hr rfl T.mg_can_all_be_given T.fu_can_all_be_given.kp T.bi_can_all_be_given .nil pass0
      (pa_cons (pe_call (ok_wants_beside T) (hr.mono (by omega)) rfl T.mg_wants_beside T.fu_wants_beside.kp T.bi_wants_beside .nil pass0
       (pa_cons (pe_slice sl_list (pv 1) (po_some pe_int) po_none) (pa_cons (pe_fld (pv 2) rfl) (pa_cons (pe_fld (pv 2) rfl) (pa_cons (pv 3) pa_nil))))) pa_nil)))
      (pss_one (ps_ret pe_bl)) pss_nil)))
    (pss_one (ps_ret pe_bl))))),?_⟩
   refine⟨_,rfl,_,.inl ⟨_,hS,rfl⟩,?_⟩
   cases hP with
   | nil=>exact iteT (k H true (Same.refl _) ⟨fun _=>My.giv_nil,fun _=>rfl⟩)
   | @cons a0 w0 as ws r0 hP=>
    refine iteF ?_
    have hall:Paired (WantAt t H) (a0::as) (w0::ws):= .cons r0 hP
    have hlen:=Paired.length hall
    have hkl:((w0::ws).map fun v=>((v.ch.length:Nat):Int)).length =(a0::as).length :=by
     rw[List.length_map]
     exact hlen.symm
    refine⟨_,rfl,l,a0::as,(w0::ws).map fun v=>((v.ch.length:Nat):Int),rfl,hS,hkl,?_,?_⟩
    ·intro i b z hb hz
     obtain⟨v,hv,wa⟩:=paired_at hall hb
     rw[List.getElem?_map,hv]at hz
     cases hz
     exact⟨b,v,rfl,wa,rfl,rfl⟩
    intro D bs hD so
    obtain⟨vs,pv2,hP2⟩:=paired_perm (sortedA_perm hkl so) hall
    have hbl:=hP2
    have lenv:vs.length=(w0::ws).length :=pv2.length_eq.symm
    clear so hbl
    cases hP2 with
    | nil=>cases lenv
    | @cons b0 v0 br vr wb hPr=>
     have s1:Same H (upd H D (.lst ((b0::br).map V.ref))):=Same.new hD
     have hgiv:My.Giv (w0::ws)↔My.Giv (v0::vr):=My.giv_perm pv2
     have hch2: ∀v∈v0::vr,v.ch.length≤1000:=fun v hv=>hch v (pv2.mem_iff.mpr hv)
     have hvl:vr.length≤n:=by
      have h1:=lenv
      rw[List.length_cons]at h1
      omega
     refine⟨_,rfl,D,_,_,_,rfl,rfl,SqL.of upd_same,atI_nat (j:=0) rfl,?_⟩
     obtain⟨dx,c,h1,h2⟩:=wb.same s1
     refine⟨_,rfl,b0,t.c_Want,dx,_,_,rfl,h1,T.cl_Want,T.no_Want_choices,rfl,c,rfl,⟨_,SqL.of h2⟩,?_⟩
     refine for_list (K:=K) (a:=c) (xs:=v0.ch.map nV) (fun i σ H'=> ∃v3:Option V,σ=[some (.ref l),some (.ref D),some (.ref b0),v3]∧Same (upd H D (.lst ((b0::br).map V.ref))) H'∧
       ∀(j:Nat) (z:Nat),j<i→v0.ch[j]? =some z→ ¬My.Giv (My.beside vr v0.st v0.en z))
      ⟨none,rfl,Same.refl _,fun j z hj=>absurd hj (Nat.not_lt_zero _)⟩ (fun i σ H' _ ⟨_,_,s5,_⟩=>s5.seq (SqL.of h2)) ?_ ?_
     ·rintro i y σ H' hi ⟨v3,rfl,s5,hno⟩
      rw[List.getElem?_map]at hi
      obtain⟨z,hz,rfl⟩:=Option.map_eq_some_iff.mp hi
      have s6:=s1.trans s5
      refine⟨_,rfl,_,rfl,D,_,rfl,SqL.of (s5 _ _ upd_same),fun p hp=>?_⟩
      have s7:Same H' (upd H' p (.lst (cutV ((b0::br).map V.ref) (some 1) none))):=Same.new hp
      rw[show((b0::br).map V.ref)=V.ref b0::br.map V.ref from rfl,cut1]at s7 ⊢
      have g1:=s7 _ _ (s5 _ _ h1)
      refine⟨_,rfl,b0,t.c_Want,dx,_,_,rfl,g1,T.cl_Want,T.no_Want_start,rfl,_,rfl,b0,t.c_Want,dx,_,_,rfl,g1,T.cl_Want,T.no_Want_end,rfl,_,rfl,?_⟩
      refine⟨p,vr,v0.st,v0.en,z,rfl,⟨br,SqL.of upd_same,Paired.mapP hPr fun _ _ q=>q.same (s6.trans s7)⟩,fun v hv=>hch2 v (List.mem_cons_of_mem _ hv),by omega,fun H8 l8 s8 n8 W8=>?_⟩
      refine⟨l8,_,rfl,W8,fun v hv=>?_,?_,by omega,fun H9 b s9 hb=>?_⟩
      ·obtain⟨v',hv',rfl⟩:=List.mem_map.mp hv
       refine Nat.le_trans ?_ (hch2 v' (List.mem_cons_of_mem _ hv'))
       unfold My.besideOne
       split
       ·exact List.length_filter_le ..
       ·exact Nat.le_refl _
      ·unfold My.beside
       rw[List.length_map]
       exact hvl
      ·have sA:=(s7.trans s8).trans s9
       refine⟨b,rfl,?_⟩
       cases b with
       | true=>exact iteT (k H9 true (s6.trans sA) ⟨fun _=>hgiv.mpr (My.giv_cons.mpr ⟨z,List.mem_of_getElem? hz,hb.mp rfl⟩),fun _=>rfl⟩)
       | false=>
        refine iteF ⟨_,rfl,s5.trans sA,fun j x hj hx=>?_⟩
        by_cases hji:j=i
        ·subst hji
         rw[hz]at hx
         cases hx
         exact fun q=>absurd (hb.mpr q) Bool.false_ne_true
        ·exact hno j x (by omega) hx
     ·rintro σ H' ⟨v3,rfl,s5,hno⟩
      refine k H' false (s1.trans s5) ⟨fun e=>(by cases e),fun hg=>?_⟩
      obtain⟨z,hz,hgz⟩:=My.giv_cons.mp (hgiv.mp hg)
      obtain⟨j,hj⟩:=List.getElem?_of_mem hz
      refine absurd hgz (hno j z ?_ hj)
      rw[List.length_map]
      exact(List.getElem?_eq_some_iff.mp hj).1
theorem BlkAt.same{H H':Hp}{a:Addr}{r:Vbhoae.Room}{b:Vbhoae.Block}(s:Same H H')(h:BlkAt t H a r b):BlkAt t H' a r b:=by
 obtain⟨dx,h1⟩:=h
 exact⟨dx,s _ _ h1⟩
theorem cut_nat(l:List Nat)(i j:Nat):cutV (l.map nV) (some (i:Int)) (some (j:Int))=((l.drop i).take (j-i)).map nV:=by
 unfold cutV
 rw[HT.sIx_nat,HT.sIx_nat,List.length_map,←List.map_drop,←List.map_take]
 congr 1
 by_cases h:i≤l.length
 ·rw[Nat.min_eq_left h]
  by_cases h2:j≤l.length
  ·rw[Nat.min_eq_left h2]
  ·rw[Nat.min_eq_right (by omega)]
   rw[List.take_of_length_le (by rw[List.length_drop];omega),List.take_of_length_le (by rw[List.length_drop];omega)]
 ·have e1:min i l.length=l.length:=by omega
  rw[e1,List.drop_of_length_le (Nat.le_refl _),List.drop_of_length_le (show l.length≤i by omega)]
  simp
theorem cut_tail(l:List Nat):cutV (l.map nV) (some 1) none=l.tail.map nV:=by
 cases l with
 | nil=>rfl
 | cons x l=>exact cut1 _ _
theorem cut_init(l:List Nat):cutV (l.map nV) none (some (-1))=l.dropLast.map nV:=by
 unfold cutV HT.sIx
 simp only[List.drop_zero,Nat.sub_zero,List.length_map]
 rw[if_pos (by decide),List.dropLast_eq_take,←List.map_take]
 congr 2
 omega
theorem bits_cast(n m:Nat):((1:Int)*2 ^ n-1)*2 ^ m=(((2 ^ n-1)*2 ^ m:Nat):Int):=by
 have h:1≤2 ^ n:=Nat.one_le_two_pow
 rw[Int.natCast_mul,Int.natCast_sub h,Int.natCast_pow,Int.natCast_pow,Int.one_mul]
 rfl
theorem bits_small{n:Nat}(h:n≤8):((1:Int)*2 ^ n-1).natAbs <2 ^ 64:=by
 have h1:2 ^ n≤2 ^ 8:=Nat.pow_le_pow_right (by decide) h
 have h2:((1:Int)*2 ^ n-1)=((2 ^ n-1:Nat):Int):=by
  have:=bits_cast n 0
  simpa using this
 rw[h2,Int.natAbs_natCast]
 exact Nat.lt_of_le_of_lt (Nat.sub_le _ _) (Nat.lt_of_le_of_lt h1 (by decide))
inductive spBlockOf(t:Adr)(K:PySem.W.Frag)(vs:List V)(H:Hp)(Q:VK)(_:XK):Prop
 | mk (rw:Addr) (r:Vbhoae.Room) (b:Vbhoae.Block) (_:vs=[nV b.row,.ref rw,nV b.first,nV b.last,nV r.loss,nV (My.offs r.rows b.row)]) (_:SqL K H rw ((Vbhoae.rowOf r b.row).map nV)) (_:My.InRoom r b) (_:r.loss≤3) (_:(Vbhoae.rowOf r b.row).length ≤8) (_:My.offs r.rows b.row≤100) (_: ∀(H':Hp) (x:Addr),Same H H'→H x=none→BlkAt t H' x r b→Q (.ref x) H')
theorem ok_block_of_row(T:Txt K mg t):FnOk P w K mg base CX0 3 t.f_block_of_row t.d_block_of_row ["number","row","first","last","loss","tables_before"] (spBlockOf t K):=by
 refine T.fu_block_of_row.ok sc_block_of_row (fun vs H Q E h=>?_) (fun cdv A outer s H vs Q E hr h=>?_)
 ·obtain⟨rw,r,b,rfl,_⟩:=h
  rfl
 ·obtain⟨rw,r,b,rfl,hS,hin,hloss,h8,hof,k⟩:=h
  have nd:=sc_block_of_row.nd
  have GS:=fun(X:Nat)=>(ok_seats_together (P:=P) (w:=w) (base:=base) T)
  refine⟨_,pss_cons (ps_set (i:=6) nd rfl (Or.inl rfl) (pe_slice sl_list (pv 1) (po_some (pe_op op_sub (pv 2) pe_int)) (po_some (pv 3))))
   (pss_cons (ps_set (i:=7) nd rfl (Or.inl rfl) (pe_callB (call_max2 rfl) rfl T.bn_max PyProof.Rows.boot_max
    (pa_cons (pe_call (GS 0) (hr.mono (by omega)) rfl T.mg_seats_together T.fu_seats_together.kp T.bi_seats_together .nil pass0 (pa_cons (pe_slice sl_list (pv 6) (po_some pe_int) po_none) (pa_cons (pv 4) pa_nil)))
    (pa_cons (pe_call (GS 1) (hr.mono (by omega)) rfl T.mg_seats_together T.fu_seats_together.kp T.bi_seats_together .nil pass0 (pa_cons (pe_slice sl_list (pv 6) po_none (po_some (pe_un un_neg pe_int))) (pa_cons (pv 4) pa_nil))) pa_nil))))
   (pss_cons (ps_set (i:=8) nd rfl (Or.inl rfl) (pe_op op_shl (pe_op op_sub (pe_op op_shl pe_int (pe_callB call_len_seq rfl T.bn_len PySem.boot_len (pa_cons (pv 6) pa_nil))) pe_int) (pe_op op_sub (pe_op op_add (pv 5) (pv 2)) pe_int)))
   (pss_one (ps_ret (pe_make T.mk_Block (ok_Block_init T) (hr.mono (by omega)) rfl T.mg_Block T.bi_Block_init .nil pass0
    (pa_cons (pv 0) (pa_cons (pv 2) (pa_cons (pv 3) (pa_cons (pe_call (GS 2) (hr.mono (by omega)) rfl T.mg_seats_together T.fu_seats_together.kp T.bi_seats_together .nil pass0 (pa_cons (pv 6) (pa_cons (pv 4) pa_nil)))
     (pa_cons (pv 7) (pa_cons (pv 8) pa_nil))))))))))),?_⟩
  obtain⟨r1,r2,r3,r4,r5⟩:=id hin
  refine⟨_,rfl,_,rfl,_,_,rfl,rfl,_,rfl,_,rfl,_,rfl,rw,_,rfl,hS,fun p hp=>?_⟩
  have e0:cutV ((Vbhoae.rowOf r b.row).map nV) (some ((b.first:Int)-1)) (some (b.last:Int))=(My.tabs r b).map nV:=by
   have e:((b.first:Nat):Int)-1=((b.first-1:Nat):Int):=by omega
   rw[e,cut_nat]
   unfold My.tabs
   rw[show b.last-(b.first-1)=b.last+1-b.first by omega]
  rw[e0]
  have tl:=My.tabs_len hin
  have s1:Same H (upd H p (.lst ((My.tabs r b).map nV))):=Same.new hp
  refine⟨_,rfl,_,rfl,p,_,rfl,SqL.of upd_same,fun p2 hp2=>?_⟩
  rw[cut_tail]
  have s2:Same (upd H p (.lst ((My.tabs r b).map nV))) (upd (upd H p (.lst ((My.tabs r b).map nV))) p2 (.lst ((My.tabs r b).tail.map nV))):=Same.new hp2
  refine⟨_,rfl,p2,_,r.loss,rfl,SqL.of upd_same,hloss,?_⟩
  refine⟨_,rfl,_,rfl,_,rfl,p,_,rfl,SqL.of (s2 _ _ upd_same),fun p3 hp3=>?_⟩
  rw[cut_init]
  have s3:=s2.trans (Same.new (o:= .lst ((My.tabs r b).dropLast.map nV)) hp3)
  refine⟨_,rfl,p3,_,r.loss,rfl,SqL.of upd_same,hloss,?_⟩
  refine⟨_,_,rfl,?_⟩
  have emax:(if ((My.seatsT r.loss (My.tabs r b).dropLast :Nat):Int)>((My.seatsT r.loss (My.tabs r b).tail :Nat):Int)then((My.seatsT r.loss (My.tabs r b).dropLast :Nat):Int)else((My.seatsT r.loss (My.tabs r b).tail :Nat):Int))=((My.less r b:Nat):Int):=by
   unfold My.less
   split<;>omega
  rw[emax]
  refine⟨_,rfl,p,_,rfl,.inl (SqL.of (s3 _ _ upd_same)),_,_,rfl,rfl,⟨by omega,by rw[List.length_map,tl];omega,by decide⟩,_,_,rfl,rfl,_,rfl,_,rfl,_,_,rfl,rfl,_,_,rfl,rfl,_,_,rfl,rfl,⟨?_,?_,?_⟩,?_⟩
  ·omega
  ·omega
  ·rw[List.length_map,tl,Int.toNat_natCast]
   exact bits_small (by omega)
  rw[List.length_map,tl,Int.toNat_natCast]
  have eb:((1:Int)*2 ^ (b.last+1-b.first)-1)*2 ^ (((My.offs r.rows b.row:Nat):Int)+((b.first:Nat):Int)-1).toNat =((My.mask r b:Nat):Int):=by
   have e1:(((My.offs r.rows b.row:Nat):Int)+((b.first:Nat):Int)-1).toNat =My.offs r.rows b.row+b.first-1:=by omega
   rw[e1]
   unfold My.mask
   exact bits_cast _ _
  dsimp only
  rw[eb]
  refine⟨_,rfl,_,rfl,_,rfl,_,rfl,_,rfl,p,_,r.loss,rfl,SqL.of (s3 _ _ upd_same),hloss,_,rfl,_,rfl,?_⟩
  rw[←My.seats_tabs hin]
  intro x dx nx ndx nxd
  refine⟨x,dx,_,rfl,rfl,upd_same,fun H4 hx kp=>⟨rfl,?_⟩⟩
  have s4:=(s1.trans s3).trans (Same.made nx ndx kp)
  exact k H4 x s4 ((s1.trans s3).free nx) ⟨dx,hx⟩
abbrev Blks(t:Adr)(H:Hp)(r:Vbhoae.Room)(as:List Addr)(bs:List Vbhoae.Block):Prop:=Paired (fun a b=>BlkAt t H a r b) as bs
theorem Blks.same{H H':Hp}{r:Vbhoae.Room}{as:List Addr}{bs:List Vbhoae.Block}(s:Same H H')(h:Blks t H r as bs):Blks t H' r as bs:=Paired.mapP h fun _ _ q=>q.same s
def pick{α:Type}(p:α→Bool)(as:List Addr)(bs:List α):List Addr:=((as.zip bs).filter fun x=>p x.2).map Prod.fst
theorem pick_snoc{α:Type}{p:α→Bool}{as:List Addr}{bs:List α}{a:Addr}{b:α}(hl:as.length=bs.length):pick p (as++[a]) (bs++[b])=pick p as bs++if p b=true then [a]else []:=by
 unfold pick
 rw[List.zip_append hl,List.filter_append,List.map_append]
 congr 1
 show(List.filter _ [(a,b)]).map _=_
 rw[List.filter_cons]
 split<;>rfl
theorem pick_paired{α:Type}{R:Addr→α→Prop}{p:α→Bool}: ∀{as:List Addr} {bs:List α},Paired R as bs→Paired R (pick p as bs) (bs.filter p)
 | _,_,.nil => .nil
 | _,_, @Paired.cons _ _ _ a b as bs r q=>by
  have ih:=pick_paired (p:=p) q
  unfold pick at ih ⊢
  rw[List.zip_cons_cons,List.filter_cons,List.filter_cons]
  by_cases h:p b=true
  ·rw[if_pos h,if_pos h]
   exact .cons r ih
  ·rw[if_neg h,if_neg h]
   exact ih
theorem pick_len{α:Type}{p:α→Bool}(as:List Addr)(bs:List α):(pick p as bs).length ≤as.length:=by
 unfold pick
 rw[List.length_map]
 refine Nat.le_trans (List.length_filter_le ..) ?_
 rw[List.length_zip]
 omega
inductive spTight(t:Adr)(K:PySem.W.Frag)(vs:List V)(H:Hp)(Q:VK)(_:XK):Prop
 | mk (l:Addr) (n:Nat) (r:Vbhoae.Room) (as:List Addr) (bs:List Vbhoae.Block) (_:vs=[.ref l,nV n]) (_:SqL K H l (as.map V.ref)) (_:Blks t H r as bs) (_:(∀b∈bs,My.InRoom r b)) (_:1≤n) (_:as.length≤1000) (_: ∀l':Addr,H l'=none→Q (.ref l') (upd H l' (.lst ((pick (Vbhoae.tight r n) as bs).map V.ref))))
theorem ok_tight_blocks(T:Txt K mg t):FnOk P w K mg base CX0 1 t.f_tight_blocks t.d_tight_blocks ["blocks","size"] (spTight t K):=by
 refine T.fu_tight_blocks.ok sc_tight_blocks (fun vs H Q E h=>?_) (fun cdv A outer s H vs Q E hr h=>?_)
 ·obtain⟨l,n,r,as,bs,rfl,_⟩:=h
  rfl
 ·obtain⟨l,n,r,as,bs,rfl,hS,hB,hin,hn,hlen,k⟩:=h
  have nd:=sc_tight_blocks.nd
  refine⟨_,pss_one (ps_ret (pe_lc (own:=[("block",2)]) rfl nd (pi_list (pv 0)) (show BlkOk n_tight_blocks (defScope s_tight_blocks) _ _ from blk_of (by decide +kernel))
   (fun _ _ _ _ _=>pg_name (i:=2) nd rfl (Or.inl rfl))
   (fun _ _ _ _ _=>pts_one (pt_chain op_lt op_le (bk_fld (pv 2) rfl) (pv 1) (bk_fld (pv 2) rfl)))
   (fun _ _ _ _ _=>pv 2))),?_⟩
  refine⟨_,rfl,l,rfl,⟨_,hS⟩,fun D hD=>?_⟩
  have s1: ∀o,Same H (upd H D o):=fun o=>Same.new hD
  refine lc_list (K:=K) (a:=l) (xs:=as.map V.ref) (fun j H2=>H2=upd H D (.lst ((pick (Vbhoae.tight r n) (as.take j) (bs.take j)).map V.ref))) rfl (fun j H2 _ e=>by rw[e];exact(s1 _).seq hS) ?_ ?_
  ·rintro j x H2 hj e
   rw[List.getElem?_map]at hj
   obtain⟨a,ha,rfl⟩:=Option.map_eq_some_iff.mp hj
   obtain⟨b,hb,dx,hba⟩:=paired_at hB ha
   subst e
   have g:=s1 (.lst ((pick (Vbhoae.tight r n) (as.take j) (bs.take j)).map V.ref)) _ _ hba
   have hi:=hin b (List.mem_of_getElem? hb)
   have ll:(as.take j).length =(bs.take j).length :=by rw[List.length_take,List.length_take,Paired.length hB]
   have et:pick (Vbhoae.tight r n) (as.take (j+1)) (bs.take (j+1))=pick (Vbhoae.tight r n) (as.take j) (bs.take j)++if Vbhoae.tight r n b=true then [a]else []:=by
    rw[List.take_add_one,List.take_add_one,ha,hb]
    exact pick_snoc ll
   have ht:=My.tight_iff hi hn
   refine⟨rfl,_,rfl,a,t.c_Block,dx,_,_,rfl,g,T.cl_Block,T.no_Block_seats_with_one_less,rfl,_,rfl,_,_,rfl,rfl,_,rfl,?_⟩
   refine ite2 (fun c1=>?_) (fun c1=>?_)
   ·refine⟨_,rfl,a,t.c_Block,dx,_,_,rfl,g,T.cl_Block,T.no_Block_seats,rfl,_,_,rfl,rfl,_,rfl,?_⟩
    have c1':My.less r b<n:=by have:=of_decide_eq_true c1;omega
    rw[decide_eq_true c1',Bool.true_and]at ht
    refine ite2 (fun c2=>?_) (fun c2=>?_)
    ·have c2':n≤Vbhoae.seats r b:=by have:=of_decide_eq_true c2;omega
     rw[decide_eq_true c2']at ht
     refine⟨_,rfl,_,upd_same,?_,?_⟩
     ·rw[List.length_map]
      refine small1000 (Nat.le_trans (pick_len ..) ?_)
      rw[List.length_take]
      omega
     ·rw[upd_upd,et,if_pos ht,List.map_append]
      rfl
    ·have c2': ¬n≤Vbhoae.seats r b:=fun q=>c2 (decide_eq_true (by omega))
     rw[decide_eq_false c2']at ht
     rw[et,if_neg (by rw[ht];decide),List.append_nil]
   ·refine⟨_,rfl,?_⟩
    have c1': ¬My.less r b<n:=fun q=>c1 (decide_eq_true (by omega))
    rw[decide_eq_false c1',Bool.false_and]at ht
    refine iteF ?_
    rw[et,if_neg (by rw[ht];decide),List.append_nil]
  ·rintro H2 e
   rw[List.length_map,List.take_length]at e
   have e2:bs.take as.length=bs:=by rw[Paired.length hB,List.take_length]
   rw[e2]at e
   rw[e]
   exact k D hD
theorem inV_nat(n:Nat): ∀l:List Nat,inV (nV n) (l.map nV)=l.contains n
 | []=>rfl
 | a::l=>by
  have ih:=inV_nat n l
  unfold inV at ih ⊢
  rw[List.map_cons,List.any_cons,ih,List.contains_cons]
  congr 1
  show decide ((a:Int)=(n:Int))=(n==a)
  by_cases h:a=n
  ·subst h;simp
  ·have h1: ¬(a:Int)=(n:Int):=by omega
   have h2:(n==a)=false:=by simp;omega
   rw[decide_eq_false h1,h2]
theorem flat_nats(l:List Nat):(l.map nV).all flatV=true:=by
 rw[List.all_eq_true]
 intro x hx
 obtain⟨n,_,rfl⟩:=List.mem_map.mp hx
 rfl
theorem leave_snoc{α:Type}{l:List α}{i:Nat}{x:α}(places:List Nat)(h:l[i]? =some x):My.leaveOut (l.take (i+1)) places=My.leaveOut (l.take i) places++if places.contains i=true then []else [x]:=by
 unfold My.leaveOut
 have hi:(l.take i).length =i:=by
  rw[List.length_take]
  have:=(List.getElem?_eq_some_iff.mp h).1
  omega
 rw[List.take_add_one,h,List.zipIdx_append,List.filter_append,List.map_append,hi]
 congr 1
 simp only[Nat.zero_add,Option.toList,List.zipIdx_cons,List.zipIdx_nil]
 rw[List.filter_cons]
 cases places.contains i<;>rfl
inductive spWithout(t:Adr)(K:PySem.W.Frag)(vs:List V)(H:Hp)(Q:VK)(_:XK):Prop
 | mk (l pl:Addr) (ws:List My.Wn) (places:List Nat) (_:vs=[.ref l,.ref pl]) (_:WantsAt t K H l ws) (_:SqL K H pl (places.map nV)) (_:ws.length≤1000) (_: ∀(H':Hp) (l':Addr),Same H H'→H l'=none→WantsAt t K H' l' (My.leaveOut ws places)→Q (.ref l') H')
theorem ok_without(T:Txt K mg t):FnOk P w K mg base CX0 1 t.f_without t.d_without ["wants","places"] (spWithout t K):=by
 refine T.fu_without.ok sc_without (fun vs H Q E h=>?_) (fun cdv A outer s H vs Q E hr h=>?_)
 ·obtain⟨l,pl,ws,places,rfl,_⟩:=h
  rfl
 ·obtain⟨l,pl,ws,places,rfl,⟨as,hS,hP⟩,hpl,hlen,k⟩:=h
  have nd:=sc_without.nd
  refine⟨_,pss_one (ps_ret (pe_lc (own:=[("place",2),("want",3)]) rfl nd (pi_enum rfl T.bn_enumerate (pa_cons (pv 0) pa_nil)) (show BlkOk n_without (defScope s_without) _ _ from blk_of (by decide +kernel))
   (fun _ _ _ _ _=>bk_tup (n:=2) rfl (pgs_cons (pg_name (i:=2) nd rfl (Or.inl rfl)) (pgs_cons (pg_name (i:=3) nd rfl (Or.inl rfl)) pgs_nil)))
   (fun _ _ _ _ _=>pts_one (pt_cmpR bk_notin (pv 2) (pv 1) (by rfl)))
   (fun _ _ _ _ _=>pv 3))),?_⟩
  refine⟨_,rfl,l,_,rfl,hS,fun D hD=>?_⟩
  refine lc_enum (K:=K) (a:=l) (xs:=as.map V.ref) (fun j H2=>Same H H2∧ ∃bs:List Addr,H2 D=some (.lst (bs.map V.ref))∧Paired (WantOff t D H2) bs (My.leaveOut (ws.take j) places))
   ⟨Same.new hD,[],upd_same,.nil⟩ (fun j H2 _ e=>e.1.seq hS) ?_ ?_
  ·rintro j x H2 T0 hj ⟨s2,bs,hb,pb⟩ hT
   rw[List.getElem?_map]at hj
   obtain⟨a,ha,rfl⟩:=Option.map_eq_some_iff.mp hj
   obtain⟨v,hv,wa⟩:=paired_at hP ha
   have s3:Same H2 (upd H2 T0 (.tup [.int (j:Nat),.ref a])):=Same.new hT
   have el:=leave_snoc places hv
   refine⟨T0,_,rfl,SqT.of upd_same,rfl,_,_,rfl,_,_,rfl,rfl,rfl,_,rfl,_,rfl,pl,_,rfl,.inl ((s2.trans s3).seq hpl),rfl,flat_nats _,_,rfl,?_⟩
   have hb3:=s3 _ _ hb
   have bl:bs.length≤1000:=by
    rw[Paired.length pb]
    unfold My.leaveOut
    rw[List.length_map]
    refine Nat.le_trans (List.length_filter_le ..) ?_
    rw[List.length_zipIdx,List.length_take]
    omega
   have en:inV (nV j) (places.map nV)=places.contains j:=inV_nat j places
   have wo:WantOff t D (upd H2 T0 (.tup [.int (j:Nat),.ref a])) a v:=((wa.off hD).same s2).same s3
   cases hc:places.contains j with
   | true=>
    rw[hc]at en el
    show if (!inV (nV j) (places.map nV))=true then _ else _
    rw[en]
    refine iteF ⟨s2.trans s3,bs,hb3,?_⟩
    rw[el,if_pos rfl,List.append_nil]
    exact Paired.mapP pb fun _ _ q=>q.same s3
   | false=>
    rw[hc]at en el
    show if (!inV (nV j) (places.map nV))=true then _ else _
    rw[en]
    refine iteT ⟨_,rfl,_,hb3,by rw[List.length_map];exact small1000 bl,fun b o e=>?_,bs++[a],by rw[upd_same,List.map_append];rfl,?_⟩
    ·rw[upd_ne (ne_of_none e hD)]
     exact s3 _ _ (s2 _ _ e)
    ·rw[el,if_neg (by decide)]
     exact paired_snoc wo.upd (Paired.mapP pb fun _ _ q=>(q.same s3).upd)
  ·rintro H2 ⟨s2,bs,hb,pb⟩
   have e:ws.take (as.map V.ref).length =ws:=by rw[List.length_map,Paired.length hP,List.take_length]
   rw[e]at pb
   exact k H2 D s2 hD ⟨bs,SqL.of hb,Paired.mapP pb fun _ _ q=>q.want⟩
theorem BlkAt.upd{H:Hp}{q a:Addr}{xs:List V}{o:HO}{r:Vbhoae.Room}{b:Vbhoae.Block}(hq:H q=some (.lst xs))(h:BlkAt t H a r b):BlkAt t (upd H q o) a r b:=by
 obtain⟨dx,h1⟩:=h
 have n:a≠q:=ne_of h1 hq (by intro z;cases z)
 exact⟨dx,by rw[upd_ne n];exact h1⟩
def rowB(n len j k:Nat):List Vbhoae.Block:=((List.range j).flatMap fun i=>(List.range (len-i)).map fun k=>⟨n,i+1,i+k+1⟩)++(List.range k).map fun k=>⟨n,j+1,j+k+1⟩
theorem rowB_zero(n len:Nat):rowB n len 0 0=[]:=rfl
theorem rowB_snoc(n len j k:Nat):rowB n len j (k+1)=rowB n len j k++[⟨n,j+1,j+k+1⟩]:=by
 unfold rowB
 rw[List.range_succ,List.map_append,List.append_assoc]
 rfl
theorem rowB_next(n len j:Nat):rowB n len j (len-j)=rowB n len (j+1) 0:=by
 unfold rowB
 rw[List.range_succ (n:=j),List.flatMap_append]
 simp
def blocksTo(r:Vbhoae.Room)(i:Nat):List Vbhoae.Block:=((r.rows.zipIdx 1).take i).flatMap fun x=>rowB x.2 x.1.length x.1.length 0
theorem blocksTo_all(r:Vbhoae.Room):blocksTo r r.rows.length=Vbhoae.blocks r:=by
 unfold blocksTo Vbhoae.blocks
 rw[List.take_of_length_le (by rw[List.length_zipIdx];exact Nat.le_refl _)]
 congr 1
 funext x
 unfold rowB
 simp
theorem blocksTo_succ(r:Vbhoae.Room){i:Nat}{row:List Nat}(h:r.rows[i]? =some row):blocksTo r (i+1)=blocksTo r i++rowB (i+1) row.length row.length 0:=by
 unfold blocksTo
 rw[List.take_add_one,List.getElem?_zipIdx,h,List.flatMap_append]
 congr 1
 simp[Nat.add_comm]
theorem flat_len{α β:Type}{f:α→List β}{m:Nat}: ∀{l:List α},(∀x∈l,(f x).length ≤m)→(l.flatMap f).length ≤l.length*m
 | [],_=>Nat.zero_le _
 | a::l,h=>by
  rw[List.flatMap_cons,List.length_append,List.length_cons,Nat.add_mul,Nat.one_mul]
  have h1:=h a (List.mem_cons_self ..)
  have h2:=flat_len (l:=l) fun x hx=>h x (List.mem_cons_of_mem _ hx)
  omega
theorem rowB_len{n len j k:Nat}(h:len≤8)(hj:j≤8)(hk:k≤8):(rowB n len j k).length ≤72:=by
 unfold rowB
 rw[List.length_append,List.length_map,List.length_range]
 have:=flat_len (l:=List.range j) (f:=fun i=>(List.range (len-i)).map fun k=>(⟨n,i+1,i+k+1⟩:Vbhoae.Block)) (m:=8) fun x _=>by
  rw[List.length_map,List.length_range]
  omega
 rw[List.length_range]at this
 omega
theorem blocksTo_len{r:Vbhoae.Room}(h8: ∀row∈r.rows,row.length≤8)(h3:r.rows.length≤3)(i:Nat):(blocksTo r i).length ≤216:=by
 unfold blocksTo
 have:=flat_len (l:=(r.rows.zipIdx 1).take i) (f:=fun x=>rowB x.2 x.1.length x.1.length 0) (m:=72) fun x hx=>by
  have hm:x.1∈r.rows:=by
   have q:=List.mem_map_of_mem (f:=Prod.fst) (List.mem_of_mem_take hx)
   rw[My.zipIdx_fst]at q
   exact q
  exact rowB_len (h8 _ hm) (h8 _ hm) (by omega)
 rw[List.length_take,List.length_zipIdx]at this
 have:min i r.rows.length*72≤3*72:=Nat.mul_le_mul_right _ (by omega)
 omega
theorem offs_le{rows:List (List Nat)}(h8: ∀row∈rows,row.length≤8)(h3:rows.length≤3)(i:Nat):My.offs rows i≤24:=by
 unfold My.offs
 have key: ∀l:List (List Nat),(∀row∈l,row.length≤8)→(l.map List.length).sum ≤l.length*8:=by
  intro l
  induction l with
  | nil=>intro _;exact Nat.zero_le _
  | cons a l ih=>
   intro h
   have h1:=h a (List.mem_cons_self ..)
   have h2:=ih fun x hx=>h x (List.mem_cons_of_mem _ hx)
   rw[List.map_cons,List.sum_cons,List.length_cons,Nat.add_mul]
   omega
 have:=key (rows.take (i-1)) fun row hx=>h8 row (List.mem_of_mem_take hx)
 rw[List.length_take]at this
 have:min (i-1) rows.length*8≤3*8:=Nat.mul_le_mul_right _ (by omega)
 omega
inductive spBlocks(t:Adr)(K:PySem.W.Frag)(vs:List V)(H:Hp)(Q:VK)(_:XK):Prop
 | mk (rl:Addr) (r:Vbhoae.Room) (ras:List Addr) (_:vs=[.ref rl,nV r.loss]) (_:SqL K H rl (ras.map V.ref)) (_:Paired (fun a row=>SqL K H a (row.map nV)) ras r.rows) (_:r.loss≤3) (_:(∀row∈r.rows,row.length≤8)) (_:r.rows.length≤3) (_: ∀(H':Hp) (l:Addr) (as:List Addr),Same H H'→H l=none→H' l=some (.lst (as.map V.ref))→Blks t H' r as (Vbhoae.blocks r)→Q (.ref l) H')
theorem ok_blocks_of(T:Txt K mg t):FnOk P w K mg base CX0 4 t.f_blocks_of t.d_blocks_of ["rows","loss"] (spBlocks t K):=by
 refine T.fu_blocks_of.ok sc_blocks_of (fun vs H Q E h=>?_) (fun cdv A outer s H vs Q E hr h=>?_)
 ·obtain⟨rl,r,ras,rfl,_⟩:=h
  rfl
 ·obtain⟨rl,r,ras,rfl,hS,hR,hloss,h8,h3,k⟩:=h
  have nd:=sc_blocks_of.nd
  refine⟨_,pss_cons (ps_set (i:=2) nd rfl (Or.inl rfl) (pe_lst pa_nil)) (pss_cons (ps_set (i:=3) nd rfl (Or.inl rfl) pe_int)
   (pss_cons (ps_for PassesOwn.never rfl (pi_enum1 rfl T.bn_enumerate (pa_cons (pv 0) pa_nil)) (pg_tup (n:=2) rfl (pgs_cons (pg_name (i:=4) nd rfl (Or.inl rfl)) (pgs_cons (pg_name (i:=5) nd rfl (Or.inl rfl)) pgs_nil)))
    (pss_cons (ps_for PassesOwn.never rfl (pi_range2 rfl T.bn_range (pa_cons pe_int (pa_cons (pe_op op_add (pe_callB call_len_seq rfl T.bn_len PySem.boot_len (pa_cons (pv 5) pa_nil)) pe_int) pa_nil))) (pg_name (i:=6) nd rfl (Or.inl rfl))
     (pss_one (ps_for PassesOwn.never rfl (pi_range2 rfl T.bn_range (pa_cons (pv 6) (pa_cons (pe_op op_add (pe_callB call_len_seq rfl T.bn_len PySem.boot_len (pa_cons (pv 5) pa_nil)) pe_int) pa_nil))) (pg_name (i:=7) nd rfl (Or.inl rfl))
      (pss_one (ps_expr (pe_bm PySem.F.plainAttrs_list PySem.F.slot_list_append PySem.F.type_list_append mt_append (pv 2)
       (pa_cons (pe_call (ok_block_of_row T) hr rfl T.mg_block_of_row T.fu_block_of_row.kp T.bi_block_of_row .nil pass0
        (pa_cons (pv 4) (pa_cons (pv 5) (pa_cons (pv 6) (pa_cons (pv 7) (pa_cons (pv 1) (pa_cons (pv 3) pa_nil))))))) pa_nil)))))))
    (pss_one (ps_aug (i:=3) nd rfl (Or.inl rfl) (pe_callB call_len_seq rfl T.bn_len PySem.boot_len (pa_cons (pv 5) pa_nil)) ip_add))))
   (pss_one (ps_ret (pv 2))))),?_⟩
  refine⟨Nat.zero_le _,fun q hq=>?_⟩
  have s1:Same H (upd H q (.lst [])):=Same.new hq
  have hrl:ras.length=r.rows.length:=Paired.length hR
  refine⟨_,rfl,rl,_,rfl,s1.seq hS,for_enum1 (K:=K) (a:=rl) (xs:=ras.map V.ref) (fun i σ H'=> ∃v4 v5 v6 v7:Option V,σ=[some (.ref rl),some (nV r.loss),some (.ref q),some (nV (My.offs r.rows (i+1))),v4,v5,v6,v7]∧Same H H'∧
    ∃as:List Addr,H' q=some (.lst (as.map V.ref))∧Blks t H' r as (blocksTo r i))
   ⟨none,none,none,none,rfl,s1,[],upd_same,.nil⟩ (fun i σ H' _ ⟨_,_,_,_,_,s5,_⟩=>s5.seq hS) ?_ ?_⟩
  ·rintro i y σ H' T0 hi ⟨v4,v5,v6,v7,rfl,s5,as,hb,pb⟩ hT
   rw[List.getElem?_map]at hi
   obtain⟨ra,hra,rfl⟩:=Option.map_eq_some_iff.mp hi
   obtain⟨row,hrow,hSr⟩:=paired_at hR hra
   have hrm:row∈r.rows:=List.mem_of_getElem? hrow
   have hr8:=h8 row hrm
   have hil:i<r.rows.length:=(List.getElem?_eq_some_iff.mp hrow).1
   have erow:Vbhoae.rowOf r (i+1)=row:=by
    unfold Vbhoae.rowOf
    rw[Nat.add_sub_cancel,hrow]
    rfl
   have s6:Same H' (upd H' T0 (.tup [.int ((i+1:Nat):Int),.ref ra])):=Same.new hT
   refine⟨T0,_,rfl,SqT.of upd_same,rfl,_,_,rfl,_,_,rfl,rfl,?_⟩
   have sR:=(s5.trans s6).seq hSr
   refine⟨_,rfl,ra,_,rfl,.inl sR,_,_,rfl,rfl,_,_,rfl,⟨by decide,by decide,by rw[List.length_map];omega,by rw[List.length_map];omega⟩,?_⟩
   rw[List.length_map,show(((row.length:Nat):Int)+1-1).toNat =row.length by omega]
   refine for_range (lo:=1) (n:=row.length) (fun j σ H2=> ∃v6 v7:Option V,σ=[some (.ref rl),some (nV r.loss),some (.ref q),some (nV (My.offs r.rows (i+1))),some (nV (i+1)),some (.ref ra),v6,v7]∧Same H H2∧
    ∃as:List Addr,H2 q=some (.lst (as.map V.ref))∧Blks t H2 r as (blocksTo r i++rowB (i+1) row.length j 0)) ⟨_,_,rfl,s5.trans s6,as,s6 _ _ hb,?_⟩ ?_ ?_
   ·rw[rowB_zero,List.append_nil]
    exact pb.same s6
   ·rintro j σ H2 hj ⟨v6,v7,rfl,s7,as2,hb2,pb2⟩
    refine⟨_,rfl,_,rfl,ra,_,rfl,.inl (s7.seq hSr),_,_,rfl,rfl,_,_,rfl,⟨by omega,by omega,by rw[List.length_map];omega,by rw[List.length_map];omega⟩,?_⟩
    rw[List.length_map,show(((row.length:Nat):Int)+1-(1+(j:Int))).toNat =row.length-j by omega]
    refine for_range (lo:=1+(j:Int)) (n:=row.length-j) (fun k2 σ H3=> ∃v7:Option V,σ=[some (.ref rl),some (nV r.loss),some (.ref q),some (nV (My.offs r.rows (i+1))),some (nV (i+1)),some (.ref ra),some (.int (1+(j:Int))),v7]∧Same H H3∧
     ∃as:List Addr,H3 q=some (.lst (as.map V.ref))∧Blks t H3 r as (blocksTo r i++rowB (i+1) row.length j k2)) ⟨_,rfl,s7,as2,hb2,pb2⟩ ?_ ?_
    ·rintro k2 σ H3 hk2 ⟨v7,rfl,s8,as3,hb3,pb3⟩
     have hin:My.InRoom r ⟨i+1,j+1,j+k2+1⟩:=⟨by show 1≤i+1;omega,by show i+1≤_;omega,by show 1≤j+1;omega,by show j+1≤j+k2+1;omega,by show j+k2+1≤(Vbhoae.rowOf r (i+1)).length;rw[erow];omega⟩
     have e1:(1+(j:Int))=((j+1:Nat):Int):=by omega
     have e2:(((j+1:Nat):Int)+(k2:Int))=((j+k2+1:Nat):Int):=by omega
     have alen:as3.length≤1000:=by
      have:=Paired.length pb3
      rw[List.length_append]at this
      have h1:=blocksTo_len h8 h3 i
      have h2:=rowB_len (n:=i+1) (k:=k2) hr8 (show j≤8 by omega) (by omega)
      omega
     refine⟨_,rfl,.inl ⟨rfl,_,SqL.of hb3⟩,_,rfl,_,rfl,_,rfl,_,rfl,_,rfl,_,rfl,?_⟩
     rw[e1,e2]
     refine⟨ra,r,⟨i+1,j+1,j+k2+1⟩,rfl,?_,hin,hloss,?_,?_,fun H4 x s9 nx bx=>?_⟩
     ·show SqL K H3 ra ((Vbhoae.rowOf r (i+1)).map nV)
      rw[erow]
      exact s8.seq hSr
     ·show(Vbhoae.rowOf r (i+1)).length ≤8
      rw[erow]
      exact hr8
     ·exact Nat.le_trans (offs_le h8 h3 _) (by decide)
     ·have hb4:=s9 _ _ hb3
      refine⟨q,_,_,rfl,rfl,hb4,by rw[List.length_map];exact small1000 alen,?_⟩
      refine⟨_,rfl,fun b o e=>by rw[upd_ne (ne_of_none e hq)];exact s9 _ _ (s8 _ _ e),as3++[x],by rw[upd_same,List.map_append];rfl,?_⟩
      rw[rowB_snoc,←List.append_assoc]
      exact paired_snoc (R:=fun a b=>BlkAt t _ a r b) (bx.upd hb4) (Paired.mapP (show Paired (fun a b=>BlkAt t H3 a r b) _ _ from pb3) fun _ _ h=>BlkAt.upd hb4 (BlkAt.same s9 h))
    ·rintro σ H3 ⟨v7,rfl,s8,as3,hb3,pb3⟩
     rw[rowB_next]at pb3
     exact⟨_,_,rfl,s8,as3,hb3,pb3⟩
   ·rintro σ H2 ⟨v6,v7,rfl,s7,as2,hb2,pb2⟩
    refine⟨_,rfl,_,rfl,ra,_,rfl,.inl (s7.seq hSr),_,_,rfl,rfl,?_⟩
    rw[←blocksTo_succ r hrow]at pb2
    have eo:((My.offs r.rows (i+1):Nat):Int)+(((row.map nV).length :Nat):Int)=((My.offs r.rows (i+1+1):Nat):Int):=by
     have:=My.offs_step (rows:=r.rows) (i:=i+1) (by omega) (by omega)
     rw[Nat.add_sub_cancel,hrow]at this
     have:My.offs r.rows (i+1+1)=My.offs r.rows (i+1)+row.length:=this
     rw[List.length_map]
     omega
    have es:([some (.ref rl),some (nV r.loss),some (.ref q),some (V.int (((My.offs r.rows (i+1):Nat):Int)+(((row.map nV).length :Nat):Int))),some (nV (i+1)),some (.ref ra),v6,v7]:List (Option V))=
      [some (.ref rl),some (nV r.loss),some (.ref q),some (nV (My.offs r.rows (i+1+1))),some (nV (i+1)),some (.ref ra),v6,v7]:=by rw[eo]
    exact⟨_,_,_,_,es,s7,as2,hb2,pb2⟩
  ·rintro σ H' ⟨v4,v5,v6,v7,rfl,s5,as,hb,pb⟩
   rw[List.length_map,hrl,blocksTo_all]at pb
   exact⟨_,rfl,k H' q as s5 hq hb pb⟩
inductive RangesOk(K:PySem.W.Frag)(d:Addr):Prop
 | mk (rows:List KRow) (kvs:List (Key×V)) (_:KDct K d rows) (_:KV kvs (rows.map kPair)) (_: ∀(p:Int) (n k:Nat),PyVbhoae.shape p=some (n,k)→ ∃(T:Addr) (Ts:List Addr),valV kvs (.inl p)=some (.ref T)∧(∀H,SqT K H T (Ts.map V.ref))∧Ts.length=n∧Paired (fun a lim=> ∀H,SqT K H a [.int lim.1,.int lim.2]) Ts (My.rangesOf p))
inductive CountsOk(K:PySem.W.Frag)(d:Addr):Prop
 | mk (rows:List KRow) (kvs:List (Key×V)) (_:KDct K d rows) (_:KV kvs (rows.map kPair)) (_: ∀(p:Int) (n k:Nat),PyVbhoae.shape p=some (n,k)→(valV kvs (.inl p)).getD (.int 0)=nV k)
theorem cut_gen(l:List V)(i j:Nat):cutV l (some (i:Int)) (some (j:Int))=(l.drop i).take (j-i):=by
 unfold cutV
 rw[HT.sIx_nat,HT.sIx_nat]
 by_cases h:i≤l.length
 ·rw[Nat.min_eq_left h]
  by_cases h2:j≤l.length
  ·rw[Nat.min_eq_left h2]
  ·rw[Nat.min_eq_right (by omega)]
   rw[List.take_of_length_le (by rw[List.length_drop];omega),List.take_of_length_le (by rw[List.length_drop];omega)]
 ·have e1:min i l.length=l.length:=by omega
  rw[e1,List.drop_of_length_le (Nat.le_refl _),List.drop_of_length_le (show l.length≤i by omega)]
  simp
theorem cut_mid(a b c:List Int):cutV ((a++(b++c)).map V.int) (some ((a.length:Nat):Int)) (some ((a.length+b.length:Nat):Int))=b.map V.int:=by
 rw[cut_gen,←List.map_drop,←List.map_take,List.drop_left,Nat.add_sub_cancel_left,List.take_left]
theorem at_mid(a:List Int)(x:Int)(c:List Int):atI ((a++x::c).map V.int) ((a.length:Nat):Int)=some (.int x):=by
 refine atI_nat ?_
 rw[List.getElem?_map,List.getElem?_append_right (Nat.le_refl _),Nat.sub_self]
 rfl
theorem putRows_app: ∀a b:List (List Int),PyFlat.putRows (a++b)=PyFlat.putRows a++PyFlat.putRows b
 | [],_=>rfl
 | x::a,b=>by
  show PyFlat.putRow x++PyFlat.putRows (a++b)=(PyFlat.putRow x++PyFlat.putRows a)++PyFlat.putRows b
  rw[putRows_app a b,List.append_assoc]
inductive CallAt(t:Adr)(H:Hp)(a:Addr)(p:Int)(xs:List Int)(rs:List (List Int))(e:Nat):Prop
 | mk (dx ln lr ras) (_:H a=some (.ins t.c_Call dx [("number",.int p),("numbers",.ref ln),("rows",.ref lr),("place_behind",nV e)])) (_:H ln=some (.lst (xs.map V.int))) (_:H lr=some (.lst (ras.map V.ref))) (_:Paired (fun b r=>H b=some (.lst (r.map V.int))) ras rs)
inductive CallNew(t:Adr)(H0 H:Hp)(a:Addr)(p:Int)(xs:List Int)(rs:List (List Int))(e:Nat):Prop
 | mk (dx ln lr ras) (_:H a=some (.ins t.c_Call dx [("number",.int p),("numbers",.ref ln),("rows",.ref lr),("place_behind",nV e)])) (_:H ln=some (.lst (xs.map V.int))) (_:H lr=some (.lst (ras.map V.ref))) (_:Paired (fun b r=>H b=some (.lst (r.map V.int))) ras rs) (_:H0 ln=none) (_:H0 lr=none) (_: ∀b∈ras,H0 b=none)
inductive spRead(t:Adr)(K:PySem.W.Frag)(vs:List V)(H:Hp)(Q:VK)(_:XK):Prop
 | mk (a:Addr) (pre rest:List Int) (p:Int) (xs:List Int) (rs:List (List Int)) (_:vs=[.ref a,nV pre.length]) (_:SqL K H a ((pre++(PyFlat.put1 ((p::xs)::rs)++rest)).map V.int)) (_:PyVbhoae.shape p=some (xs.length,rs.length)) (_:rs.length≤3) (_: ∀(H':Hp) (x:Addr),Same H H'→H x=none→CallNew t H H' x p xs rs (pre.length+(PyFlat.put1 ((p::xs)::rs)).length)→Q (.ref x) H')
theorem ok_read_call(T:Txt K mg t)(hR:RangesOk K t.g_RANGES)(hC:CountsOk K t.g_ROW_COUNTS):FnOk P w K mg base CX0 3 t.f_read_call t.d_read_call ["calls","place"] (spRead t K):=by
 refine T.fu_read_call.ok sc_read_call (fun vs H Q E h=>?_) (fun cdv A outer s H vs Q E hr h=>?_)
 ·obtain⟨a,pre,rest,p,xs,rs,rfl,_⟩:=h
  rfl
 ·obtain⟨a,pre,rest,p,xs,rs,rfl,hS,hsh,hrs,k⟩:=h
  obtain⟨rowsR,kvR,dR,relR,hRv⟩:=hR
  obtain⟨rowsC,kvC,dC,relC,hCv⟩:=hC
  have nd:=sc_read_call.nd
  refine⟨_,pss_cons (ps_set (i:=2) nd rfl (Or.inl rfl) (pe_ix ix_list (pv 0) (pv 1) (fun _ _=>rfl)))
   (pss_cons (ps_set (i:=3) nd rfl (Or.inl rfl) (pe_op op_add (pe_op op_add (pv 1) pe_int) (pe_callB call_len_seq rfl T.bn_len PySem.boot_len (pa_cons (pe_dgetK dR relR (pe_glob rfl T.mg_RANGES rfl) (pv 2) (fun _ _=>rfl)) pa_nil))))
   (pss_cons (ps_set (i:=4) nd rfl (Or.inl rfl) (pe_slice sl_list (pv 0) (po_some (pe_op op_add (pv 1) pe_int)) (po_some (pv 3))))
   (pss_cons (ps_set (i:=5) nd rfl (Or.inl rfl) (pe_lst pa_nil))
   (pss_cons (ps_while PassesOwn.never (pt_cmpR op_lt (pe_callB call_len_seq rfl T.bn_len PySem.boot_len (pa_cons (pv 5) pa_nil)) (pe_dgetK2 dC relC (pe_glob rfl T.mg_ROW_COUNTS rfl) (pv 2) pe_int ⟨rfl,rfl,rfl,rfl⟩) (nomark _))
    (pss_cons (ps_set (i:=6) nd rfl (Or.inl rfl) (pe_op op_add (pe_op op_add (pv 3) pe_int) (pe_ix ix_list (pv 0) (pv 3) (fun _ _=>rfl))))
    (pss_cons (ps_expr (pe_bm PySem.F.plainAttrs_list PySem.F.slot_list_append PySem.F.type_list_append mt_append (pv 5) (pa_cons (pe_slice sl_list (pv 0) (po_some (pe_op op_add (pv 3) pe_int)) (po_some (pv 6))) pa_nil)))
    (pss_one (ps_set (i:=3) nd rfl (Or.inl rfl) (pv 6))))))
   (pss_one (ps_ret (pe_make T.mk_Call (ok_Call_init T) (hr.mono (by omega)) rfl T.mg_Call T.bi_Call_init .nil pass0 (pa_cons (pv 2) (pa_cons (pv 4) (pa_cons (pv 5) (pa_cons (pv 3) pa_nil))))))))))),?_⟩
  obtain⟨Tr,Ts,hv,hT,hTl,_⟩:=hRv p _ _ hsh
  have hc:=hCv p _ _ hsh
  have el:pre++(PyFlat.put1 ((p::xs)::rs)++rest)=pre++p::(xs++(PyFlat.putRows rs++rest)):=by
   show pre++((p::xs++PyFlat.putRows rs)++rest)=_
   rw[List.append_assoc]
   rfl
  have hS0:=hS
  rw[el]at hS
  refine⟨_,rfl,_,rfl,a,_,_,_,rfl,rfl,hS,at_mid _ _ _,?_⟩
  refine⟨_,rfl,_,_,rfl,rfl,_,rfl,.inl p,_,rfl,hv,Tr,_,rfl,.inr (hT H),_,_,rfl,rfl,?_⟩
  have e3:(((pre.length:Nat):Int)+1+(((Ts.map V.ref).length :Nat):Int))=((pre.length+1+xs.length:Nat):Int):=by
   rw[List.length_map,hTl]
   omega
  dsimp only
  rw[e3]
  refine⟨_,rfl,_,rfl,_,_,rfl,rfl,_,rfl,_,rfl,_,rfl,a,_,rfl,hS,fun q hq=>?_⟩
  have e4:cutV ((pre++p::(xs++(PyFlat.putRows rs++rest))).map V.int) (some (((pre.length:Nat):Int)+1)) (some ((pre.length+1+xs.length:Nat):Int))=xs.map V.int:=by
   have h1:=cut_mid (pre++[p]) xs (PyFlat.putRows rs++rest)
   rw[List.length_append,List.append_assoc]at h1
   have h2:(((pre.length:Nat):Int)+1)=((pre.length+ [p].length :Nat):Int):=by
    show _=((pre.length+1:Nat):Int)
    omega
   rw[h2]
   exact h1
  rw[e4]
  have s1:Same H (upd H q (.lst (xs.map V.int))):=Same.new hq
  refine⟨Nat.zero_le _,fun q2 hq2=>?_⟩
  have nq:q≠q2:=ne_of_none (H:=upd H q (.lst (xs.map V.int))) upd_same hq2
  have hq20:H q2=none:=s1.free hq2
  refine⟨fun m σ H'=> ∃(i:Nat) (v6:Option V) (ras:List Addr),i+m=rs.length∧σ=[some (.ref a),some (nV pre.length),some (.int p),some (nV (pre.length+1+xs.length+(PyFlat.putRows (rs.take i)).length)),some (.ref q),some (.ref q2),v6]∧
    Same H H'∧H' q=some (.lst (xs.map V.int))∧H' q2=some (.lst (ras.map V.ref))∧Paired (fun b r=>(b≠q2∧H b=none)∧H' b=some (.lst (r.map V.int))) ras (rs.take i),
   ⟨rs.length,0,none,[],by omega,rfl,fun b o e=>by rw[upd_ne (ne_of_none (s1 _ _ e) hq2)];exact s1 _ _ e,by rw[upd_ne nq];exact upd_same,upd_same,.nil⟩,?_⟩
  rintro m σ H' ⟨i,v6,ras,him,rfl,s5,h5,h52,pr⟩
  have hrl:ras.length=i:=by
   rw[Paired.length pr,List.length_take]
   omega
  refine⟨_,rfl,q2,_,rfl,.inl (SqL.of h52),_,rfl,.inl p,rfl,_,_,rfl,hc,_,rfl,?_⟩
  rw[List.length_map,hrl]
  refine ite2 (fun c=>?_) (fun c=>?_)
  ·have hlt:i<rs.length:=by
    have:=of_decide_eq_true c
    omega
   obtain⟨row,hrow⟩: ∃row,rs[i]? =some row:=⟨_,List.getElem?_eq_getElem hlt⟩
   have etk:rs.take (i+1)=rs.take i++[row]:=by
    rw[List.take_add_one,hrow]
    rfl
   have esp:rs=rs.take i++row::rs.drop (i+1):=by
    have h1:=(List.take_append_drop (i+1) rs).symm
    rw[etk,List.append_assoc]at h1
    exact h1
   have eA:pre++p::(xs++(PyFlat.putRows rs++rest))=(pre++p::xs++PyFlat.putRows (rs.take i))++((row.length:Int)::(row++(PyFlat.putRows (rs.drop (i+1))++rest))):=by
    conv=>lhs;rw[esp,putRows_app]
    show _=_++((PyFlat.putRow row)++(PyFlat.putRows (rs.drop (i+1))++rest))
    simp only[List.append_assoc,List.cons_append,PyFlat.putRows]
   have lenA:(pre++p::xs++PyFlat.putRows (rs.take i)).length =pre.length+1+xs.length+(PyFlat.putRows (rs.take i)).length :=by
    rw[List.length_append,List.length_append,List.length_cons]
    omega
   have lenP:(PyFlat.putRows (rs.take (i+1))).length =(PyFlat.putRows (rs.take i)).length +(row.length+1):=by
    rw[etk,putRows_app,List.length_append]
    congr 1
    show(PyFlat.putRow row++[]).length =_
    rw[List.append_nil]
    rfl
   have hS5:=s5.seq hS
   rw[eA]at hS5
   generalize pre++p::xs++PyFlat.putRows (rs.take i)=Ai at hS5 lenA
   have at5:=at_mid Ai (row.length:Int) (row++(PyFlat.putRows (rs.drop (i+1))++rest))
   rw[lenA]at at5
   refine⟨fun σ' H2=> ∃(v6:Option V) (ras:List Addr),σ'=[some (.ref a),some (nV pre.length),some (.int p),some (nV (pre.length+1+xs.length+(PyFlat.putRows (rs.take (i+1))).length)),some (.ref q),some (.ref q2),v6]∧
     Same H H2∧H2 q=some (.lst (xs.map V.int))∧H2 q2=some (.lst (ras.map V.ref))∧Paired (fun b r=>(b≠q2∧H b=none)∧H2 b=some (.lst (r.map V.int))) ras (rs.take (i+1)),
    fun σ' H2 ⟨v6,ras,h1,h2⟩=>⟨m-1,by omega,i+1,v6,ras,by omega,h1,h2⟩,?_⟩
   refine⟨_,rfl,_,_,rfl,rfl,_,rfl,_,rfl,a,_,_,_,rfl,rfl,hS5,at5,_,_,rfl,rfl,?_⟩
   have e6:(((pre.length+1+xs.length+(PyFlat.putRows (rs.take i)).length :Nat):Int)+1+(row.length:Int))=((pre.length+1+xs.length+(PyFlat.putRows (rs.take (i+1))).length :Nat):Int):=by
    rw[lenP]
    omega
   dsimp only
   rw[e6]
   refine⟨_,rfl,.inl ⟨rfl,_,SqL.of h52⟩,_,rfl,_,rfl,_,_,rfl,rfl,_,rfl,_,rfl,_,rfl,a,_,rfl,hS5,fun q3 hq3=>?_⟩
   have e7:cutV ((Ai++((row.length:Int)::(row++(PyFlat.putRows (rs.drop (i+1))++rest)))).map V.int) (some (((pre.length+1+xs.length+(PyFlat.putRows (rs.take i)).length :Nat):Int)+1)) (some ((pre.length+1+xs.length+(PyFlat.putRows (rs.take (i+1))).length :Nat):Int))=row.map V.int:=by
    have h1:=cut_mid (Ai++[(row.length:Int)]) row (PyFlat.putRows (rs.drop (i+1))++rest)
    rw[List.length_append,List.append_assoc,lenA]at h1
    have h2:(((pre.length+1+xs.length+(PyFlat.putRows (rs.take i)).length :Nat):Int)+1)=((pre.length+1+xs.length+(PyFlat.putRows (rs.take i)).length + [(row.length:Int)].length :Nat):Int):=by
     show _=((pre.length+1+xs.length+(PyFlat.putRows (rs.take i)).length +1:Nat):Int)
     omega
    have h3:pre.length+1+xs.length+(PyFlat.putRows (rs.take (i+1))).length =pre.length+1+xs.length+(PyFlat.putRows (rs.take i)).length + [(row.length:Int)].length +row.length:=by
     rw[lenP]
     show _=_+1+row.length
     omega
    rw[h2,h3]
    exact h1
   rw[e7]
   have s7:Same H' (upd H' q3 (.lst (row.map V.int))):=Same.new hq3
   have n3:q2≠q3:=ne_of_none h52 hq3
   refine⟨q2,_,_,rfl,rfl,s7 _ _ h52,by rw[List.length_map,hrl];exact small1000 (by omega),?_⟩
   refine⟨_,rfl,_,ras++[q3],rfl,fun b o e=>?_,?_,by rw[upd_same,List.map_append];rfl,?_⟩
   ·rw[upd_ne (ne_of_none e hq20)]
    exact s7 _ _ (s5 _ _ e)
   ·rw[upd_ne nq]
    exact s7 _ _ h5
   ·rw[etk]
    refine paired_snoc (R:=fun b r=>(b≠q2∧H b=none)∧upd (upd H' q3 (.lst (row.map V.int))) q2 (.lst (ras.map V.ref++[.ref q3])) b=some (.lst (r.map V.int))) ⟨⟨Ne.symm n3,s5.free hq3⟩,by rw[upd_ne (Ne.symm n3)];exact upd_same⟩ (Paired.mapP pr fun b r h=>⟨h.1,by rw[upd_ne h.1.1];exact s7 _ _ h.2⟩)
  ·have hie:i=rs.length:=by
    have h1: ¬(i:Int)<(rs.length:Int):=fun z=>c (decide_eq_true z)
    omega
   subst hie
   rw[List.take_length]at pr
   refine⟨_,rfl,_,rfl,_,rfl,_,rfl,?_⟩
   rw[List.take_length]
   intro x dx nx ndx nxd
   refine⟨x,dx,_,rfl,rfl,upd_same,fun H4 hx kp=>⟨rfl,?_⟩⟩
   have s8:=Same.made nx ndx kp
   have elen:pre.length+(PyFlat.put1 ((p::xs)::rs)).length =pre.length+1+xs.length+(PyFlat.putRows rs).length :=by
    show pre.length+(p::xs++PyFlat.putRows rs).length =_
    rw[List.length_append,List.length_cons]
    omega
   refine k H4 x (s5.trans s8) (s5.free nx) ?_
   rw[elen]
   exact⟨dx,q,q2,ras,hx,s8 _ _ h5,s8 _ _ h52,Paired.mapP pr fun b r h=>s8 _ _ h.2,hq,hq20,fun b hb=>by
    obtain⟨i,hi,rfl⟩:=List.mem_iff_getElem.mp hb
    obtain⟨r,_,q9⟩:=paired_at pr (List.getElem?_eq_getElem hi)
    exact q9.1.2⟩
inductive spRowOk(K:PySem.W.Frag)(vs:List V)(H:Hp)(Q:VK)(_:XK):Prop
 | mk (a:Addr) (r:List Int) (_:vs=[.ref a]) (_:SqL K H a (r.map V.int)) (_:r.length≤100000) (_: ∀H':Hp,Same H H'→Q (.bl (My.rowOk r)) H')
theorem ok_is_row_in_range(T:Txt K mg t):FnOk P w K mg base CX0 1 t.f_is_row_in_range t.d_is_row_in_range ["row"] (spRowOk K):=by
 refine T.fu_is_row_in_range.ok sc_is_row_in_range (fun vs H Q E h=>?_) (fun cdv A outer s H vs Q E hr h=>?_)
 ·obtain⟨a,r,rfl,_⟩:=h
  rfl
 ·obtain⟨a,r,rfl,hS,hlen,k⟩:=h
  have nd:=sc_is_row_in_range.nd
  obtain⟨k1,hk1⟩:=T.ct_LONGEST_ROW
  obtain⟨k2,hk2⟩:=T.ct_MOST_SEATS
  refine⟨_,pss_cons (ps_if (pt_cmpR op_gt (pe_callB call_len_seq rfl T.bn_len PySem.boot_len (pa_cons (pv 0) pa_nil)) (pe_glob rfl hk1 (v:= .int 8) ⟨_,rfl⟩) (nomark _)) (pss_one (ps_ret pe_bl)) pss_nil)
   (pss_one (ps_ret (pe_callB (call_allL rfl) rfl T.bn_all PyProof.Rows.boot_all (pa_cons (pe_lc (own:=[("seats",1)]) rfl nd (pi_list (pv 0)) (show BlkOk n_is_row_in_range (defScope s_is_row_in_range) _ _ from blk_of (by decide +kernel))
    (fun _ _ _ _ _=>pg_name (i:=1) nd rfl (Or.inl rfl)) (fun _ _ _ _ _=>pts_nil) (fun _ _ _ _ _=>pe_chain op_le op_le pe_int (pv 1) (pe_glob rfl hk2 (v:= .int 10) ⟨_,rfl⟩))) pa_nil)))),?_⟩
  refine⟨_,rfl,a,_,rfl,.inl hS,_,_,rfl,rfl,_,rfl,?_⟩
  rw[List.length_map]
  refine ite2 (fun c=>?_) (fun c=>?_)
  ·have h8: ¬r.length≤8:=by
    have:=of_decide_eq_true c
    omega
   have e:My.rowOk r=false:=by
    unfold My.rowOk
    rw[decide_eq_false h8]
    rfl
   have:=k H (Same.refl _)
   rw[e]at this
   exact this
  ·have h8:r.length≤8:=by
    have h1: ¬(8:Int)<(r.length:Int):=fun z=>c (decide_eq_true z)
    omega
   refine⟨_,rfl,a,rfl,⟨_,hS⟩,fun D hD=>?_⟩
   refine lc_list (K:=K) (a:=a) (xs:=r.map V.int) (fun j H2=>H2=upd H D (.lst (((r.take j).map fun x=>decide (1≤x)&&decide (x≤10)).map V.bl))) rfl (fun j H2 _ e=>by rw[e];exact(Same.new hD).seq hS) ?_ ?_
   ·rintro j x H2 hj e
    rw[List.getElem?_map]at hj
    obtain⟨z,hz,rfl⟩:=Option.map_eq_some_iff.mp hj
    subst e
    refine⟨rfl,?_⟩
    simp only[tYes,if_true]
    refine⟨_,rfl,_,_,rfl,rfl,_,rfl,?_⟩
    have etk: ∀b,(decide (1≤z)&&decide (z≤10))=b→upd (upd H D (.lst (((r.take j).map fun x=>decide (1≤x)&&decide (x≤10)).map V.bl))) D (.lst (((r.take j).map fun x=>decide (1≤x)&&decide (x≤10)).map V.bl++[.bl b]))=
      upd H D (.lst (((r.take (j+1)).map fun x=>decide (1≤x)&&decide (x≤10)).map V.bl)):=by
     intro b hb
     rw[upd_upd,List.take_add_one,hz,List.map_append,List.map_append]
     show _=upd H D (.lst (_++[V.bl (decide (1≤z)&&decide (z≤10))]))
     rw[hb]
    have ll:(((r.take j).map fun x=>decide (1≤x)&&decide (x≤10)).map V.bl).length <sizeLine:=by
     rw[List.length_map,List.length_map,List.length_take]
     exact small1000 (by omega)
    refine ite2 (fun c1=>?_) (fun c1=>?_)
    ·refine⟨_,_,rfl,rfl,_,upd_same,ll,etk _ ?_⟩
     rw[decide_eq_true (of_decide_eq_true c1),Bool.true_and]
    ·refine⟨_,upd_same,ll,etk _ ?_⟩
     have c1':decide (1≤z)=false:=by simpa using c1
     rw[c1',Bool.false_and]
   ·rintro H2 e
    rw[List.length_map,List.take_length]at e
    subst e
    refine⟨D,_,rfl,SqL.of upd_same,?_⟩
    have e:(r.map fun x=>decide (1≤x)&&decide (x≤10)).all id=My.rowOk r:=by
     unfold My.rowOk
     rw[decide_eq_true h8,Bool.true_and,List.all_map]
     rfl
    rw[e]
    exact k _ (Same.new hD)
inductive spInRange(t:Adr)(vs:List V)(H:Hp)(Q:VK)(_:XK):Prop
 | mk (a:Addr) (p:Int) (xs:List Int) (rs:List (List Int)) (e:Nat) (_:vs=[.ref a]) (_:CallAt t H a p xs rs e) (_:PyVbhoae.shape p=some (xs.length,rs.length)) (_:rs.length≤3) (_:(∀r∈rs,r.length≤100000)) (_: ∀H':Hp,Same H H'→Q (.bl (My.inRange p xs rs)) H')
theorem ok_is_in_range(T:Txt K mg t)(hR:RangesOk K t.g_RANGES):FnOk P w K mg base CX0 2 t.f_is_in_range t.d_is_in_range ["call"] (spInRange t):=by
 refine T.fu_is_in_range.ok sc_is_in_range (fun vs H Q E h=>?_) (fun cdv A outer s H vs Q E hr h=>?_)
 ·obtain⟨a,p,xs,rs,e,rfl,_⟩:=h
  rfl
 ·obtain⟨a,p,xs,rs,e,rfl,⟨dx,ln,lr,ras,ha,hln,hlr,hrs⟩,hsh,h3,hr8,k⟩:=h
  have nd:=sc_is_in_range.nd
  obtain⟨rowsR,kvR,dR,relR,hRv⟩:=hR
  obtain⟨Tr,Ts,hv,hT,hTl,hTs⟩:=hRv p _ _ hsh
  refine⟨_,pss_cons (ps_for PassesOwn.never rfl (pi_zipT rfl T.bn_zip (pa_cons (pe_fld (pv 0) rfl) (pa_cons (pe_dgetK dR relR (pe_glob rfl T.mg_RANGES rfl) (pe_fld (pv 0) rfl) (fun _ _=>rfl)) pa_nil)))
    (pg_tup (n:=2) rfl (pgs_cons (pg_name (i:=1) nd rfl (Or.inl rfl)) (pgs_cons (pg_name (i:=2) nd rfl (Or.inl rfl)) pgs_nil)))
    (pss_one (ps_if (pw_or (pt_cmpR op_lt (pv 1) (pe_ix ix_tup (pv 2) pe_int (fun _ _=>rfl)) (nomark _)) (pw_or1 (pt_cmpR op_gt (pv 1) (pe_ix ix_tup (pv 2) pe_int (fun _ _=>rfl)) (nomark _)))).pt (pss_one (ps_ret pe_bl)) pss_nil)))
   (pss_one (ps_ret (pe_callB (call_allL rfl) rfl T.bn_all PyProof.Rows.boot_all (pa_cons (pe_lc (own:=[("row",3)]) rfl nd (pi_list (pe_fld (pv 0) rfl)) (show BlkOk n_is_in_range (defScope s_is_in_range) _ _ from blk_of (by decide +kernel))
    (fun _ _ _ _ _=>pg_name (i:=3) nd rfl (Or.inl rfl)) (fun _ _ _ _ _=>pts_nil)
    (fun _ _ _ _ _=>pe_call (ok_is_row_in_range T) hr rfl T.mg_is_row_in_range T.fu_is_row_in_range.kp T.bi_is_row_in_range .nil pass0 (pa_cons (pv 3) pa_nil))) pa_nil)))),?_⟩
  have lenR:(My.rangesOf p).length =xs.length:=by rw[←Paired.length hTs,hTl]
  refine⟨_,rfl,a,t.c_Call,dx,_,_,rfl,ha,T.cl_Call,T.no_Call_numbers,rfl,_,rfl,a,t.c_Call,dx,_,_,rfl,ha,T.cl_Call,T.no_Call_number,rfl,.inl p,_,rfl,hv,ln,Tr,_,_,rfl,SqL.of hln,hT _,?_⟩
  refine for_zipT (K:=K) (a:=ln) (b:=Tr) (xs:=xs.map V.int) (ys:=Ts.map V.ref) (fun i σ H'=> ∃v1 v2 v3:Option V,σ=[some (.ref a),v1,v2,v3]∧Same H H'∧((xs.take i).zip ((My.rangesOf p).take i)).all (fun x=>My.inRg x.1 x.2)=true)
   ⟨none,none,none,rfl,Same.refl _,rfl⟩ (by rw[List.length_map,List.length_map,hTl];exact Nat.le_refl _) (fun i σ H' _ ⟨_,_,_,_,s5,_⟩=>⟨s5.seq (SqL.of hln),hT _⟩) ?_ ?_
  ·rintro i x y σ H' T0 hi hi2 ⟨v1,v2,v3,rfl,s5,hall⟩ hT0
   rw[List.getElem?_map]at hi hi2
   obtain⟨z,hz,rfl⟩:=Option.map_eq_some_iff.mp hi
   obtain⟨la,hla,rfl⟩:=Option.map_eq_some_iff.mp hi2
   obtain⟨lim,hlim,hlt⟩:=paired_at hTs hla
   have s6:Same H' (upd H' T0 (.tup [.int z,.ref la])):=Same.new hT0
   have etk:((xs.take (i+1)).zip ((My.rangesOf p).take (i+1))).all (fun x=>My.inRg x.1 x.2)=My.inRg z lim:=by
    have ll:(xs.take i).length =((My.rangesOf p).take i).length :=by rw[List.length_take,List.length_take,lenR]
    rw[List.take_add_one,List.take_add_one,hz,hlim,List.zip_append ll,List.all_append,hall,Bool.true_and]
    show(My.inRg z lim&&true)=_
    rw[Bool.and_true]
   have bad:My.inRg z lim=false→My.inRange p xs rs=false:=fun hb=>by
    unfold My.inRange
    have:((xs.zip (My.rangesOf p)).all fun x=>My.inRg x.1 x.2)=false:=by
     cases e:(xs.zip (My.rangesOf p)).all fun x=>My.inRg x.1 x.2 with
     | false=>rfl
     | true=>
      have hm:(z,lim)∈xs.zip (My.rangesOf p):=by
       refine List.mem_of_getElem? (i:=i) ?_
       rw[List.getElem?_zip_eq_some]
       exact⟨hz,hlim⟩
      have:=List.all_eq_true.mp e _ hm
      rw[hb]at this
      cases this
    rw[this]
    rfl
   refine⟨T0,_,rfl,SqT.of upd_same,rfl,_,_,rfl,_,_,rfl,rfl,?_⟩
   refine⟨_,rfl,_,rfl,la,_,_,_,rfl,rfl,hlt _,atI_nat (j:=0) rfl,_,_,rfl,rfl,_,rfl,?_⟩
   refine ite2 (fun c1=>?_) (fun c1=>?_)
   ·have hb:My.inRg z lim=false:=by
     unfold My.inRg
     have: ¬lim.1≤z:=by
      have:=of_decide_eq_true c1
      omega
     rw[decide_eq_false this,Bool.false_and]
    have:=k _ (s5.trans s6)
    rw[bad hb]at this
    exact iteT this
   ·refine⟨_,rfl,_,rfl,la,_,_,_,rfl,rfl,hlt _,atI_nat (j:=1) rfl,_,_,rfl,rfl,_,rfl,?_⟩
    have c1':lim.1≤z:=by
     have h1: ¬z<lim.1:=fun q=>c1 (decide_eq_true q)
     omega
    refine ite2 (fun c2=>?_) (fun c2=>?_)
    ·have hb:My.inRg z lim=false:=by
      unfold My.inRg
      have: ¬z≤lim.2:=by
       have:=of_decide_eq_true c2
       omega
      rw[decide_eq_false this,Bool.and_false]
     have:=k _ (s5.trans s6)
     rw[bad hb]at this
     exact this
    ·have c2':z≤lim.2:=by
      have h1: ¬lim.2<z:=fun q=>c2 (decide_eq_true q)
      omega
     refine⟨_,_,_,rfl,s5.trans s6,?_⟩
     rw[etk]
     unfold My.inRg
     rw[decide_eq_true c1',decide_eq_true c2']
     rfl
  ·rintro σ H' ⟨v1,v2,v3,rfl,s5,hall⟩
   rw[List.length_map,List.take_length,←lenR,List.take_length]at hall
   refine⟨_,rfl,a,t.c_Call,dx,_,_,rfl,s5 _ _ ha,T.cl_Call,T.no_Call_rows,rfl,lr,rfl,⟨_,SqL.of (s5 _ _ hlr)⟩,fun D hD=>?_⟩
   refine lc_list (K:=K) (a:=lr) (xs:=ras.map V.ref) (fun j H2=>Same H' H2∧H2 D=some (.lst (((rs.take j).map My.rowOk).map V.bl))) ⟨Same.new hD,upd_same⟩ (fun j H2 _ e=>e.1.seq (SqL.of (s5 _ _ hlr))) ?_ ?_
   ·rintro j x H2 hj ⟨s7,h7⟩
    rw[List.getElem?_map]at hj
    obtain⟨ra,hra,rfl⟩:=Option.map_eq_some_iff.mp hj
    obtain⟨r,hr1,hr2⟩:=paired_at hrs hra
    refine⟨rfl,?_⟩
    simp only[tYes,if_true]
    refine⟨_,rfl,ra,r,rfl,SqL.of (s7 _ _ (s5 _ _ hr2)),hr8 r (List.mem_of_getElem? hr1),fun H3 s8=>?_⟩
    refine⟨_,s8 _ _ h7,?_,fun b o e=>?_,?_⟩
    ·rw[List.length_map,List.length_map,List.length_take]
     exact small1000 (by omega)
    ·rw[upd_ne (ne_of_none e hD)]
     exact s8 _ _ (s7 _ _ e)
    ·rw[upd_same,List.take_add_one,hr1,List.map_append,List.map_append]
     rfl
   ·rintro H2 ⟨s7,h7⟩
    have e1:rs.take (ras.map V.ref).length =rs:=by rw[List.length_map,Paired.length hrs,List.take_length]
    rw[e1]at h7
    refine⟨D,_,rfl,SqL.of h7,?_⟩
    have e2:(rs.map My.rowOk).all id=My.inRange p xs rs:=by
     unfold My.inRange
     rw[hall,Bool.true_and,List.all_map]
     rfl
    rw[e2]
    exact k _ (s5.trans s7)
end
def isIns{α:Type}(key:α→Nat)(x:α):List α→List α
 | []=>[x]
 | y::l=>if key x≤key y then x::y::l else y::isIns key x l
def isort{α:Type}(key:α→Nat):List α→List α
 | []=>[]
 | x::l=>isIns key x (isort key l)
theorem isIns_map{α β:Type}(key:β→Nat)(f:α→β)(x:α): ∀l:List α,isIns key (f x) (l.map f)=(isIns (key∘f) x l).map f
 | []=>rfl
 | y::l=>by
  show(if key (f x)≤key (f y)then _ else _)=(if key (f x)≤key (f y)then _ else _:List α).map f
  split
  ·rfl
  ·rw[List.map_cons,isIns_map key f x l]
theorem isort_map{α β:Type}(key:β→Nat)(f:α→β): ∀l:List α,isort key (l.map f)=(isort (key∘f) l).map f
 | []=>rfl
 | x::l=>by
  show isIns key (f x) (isort key (l.map f))=(isIns (key∘f) x (isort (key∘f) l)).map f
  rw[isort_map key f l,isIns_map]
theorem isIns_mem{α:Type}{key:α→Nat}{x y:α}: ∀{l:List α},y∈isIns key x l→y=x∨y∈l
 | [],h=> .inl (List.mem_singleton.mp h)
 | z::l,h=>by
  unfold isIns at h
  split at h
  ·exact List.mem_cons.mp h
  ·rcases List.mem_cons.mp h with e | m
   ·exact .inr (e▸List.mem_cons_self ..)
   ·exact(isIns_mem m).imp_right (List.mem_cons_of_mem _)
theorem isIns_sorted{α:Type}{key:α→Nat}{x:α}: ∀{l:List α},l.Pairwise (fun a b=>key a≤key b)→(isIns key x l).Pairwise (fun a b=>key a≤key b)
 | [],_=>List.pairwise_singleton ..
 | y::l,h=>by
  obtain⟨h1,h2⟩:=List.pairwise_cons.mp h
  unfold isIns
  split
  ·rename_i q
   refine List.pairwise_cons.mpr ⟨fun z hz=>?_,h⟩
   rcases List.mem_cons.mp hz with e | m
   ·rw[e];exact q
   ·exact Nat.le_trans q (h1 z m)
  ·rename_i q
   refine List.pairwise_cons.mpr ⟨fun z hz=>?_,isIns_sorted h2⟩
   rcases isIns_mem hz with e | m
   ·rw[e];omega
   ·exact h1 z m
theorem isort_sorted{α:Type}{key:α→Nat}: ∀l:List α,(isort key l).Pairwise (fun a b=>key a≤key b)
 | []=> .nil
 | _::l=>isIns_sorted (isort_sorted l)
theorem isIns_key{α:Type}{key:α→Nat}{x:α}{c:Nat}: ∀{l:List α},(isIns key x l).filter (fun a=>key a==c)=(x::l).filter (fun a=>key a==c)
 | []=>rfl
 | y::l=>by
  unfold isIns
  split
  ·rfl
  ·rename_i q
   rw[List.filter_cons,isIns_key (l:=l)]
   simp only[List.filter_cons]
   by_cases e1:key x=c
   ·have e2: ¬key y=c:=by omega
    simp[e1,e2]
   ·simp[e1]
theorem isort_key{α:Type}{key:α→Nat}{c:Nat}: ∀l:List α,(isort key l).filter (fun a=>key a==c)=l.filter (fun a=>key a==c)
 | []=>rfl
 | x::l=>by
  show(isIns key x (isort key l)).filter _=_
  rw[isIns_key,List.filter_cons,List.filter_cons,isort_key l]
theorem sortedA_isort{α:Type}{key:α→Nat}{as bs:List Addr}{ls:List α}(hl:as.length=ls.length)(h:SortedA (ls.map fun l=>((key l:Nat):Int)) as bs): ∃zs:List (Addr×α),zs=isort (fun z=>key z.2) (as.zip ls)∧bs=zs.map Prod.fst∧zs.map Prod.snd=isort key ls:=by
 obtain⟨ps,p1,e1,p2,p3⟩:=h
 have ez:(ls.map fun l=>((key l:Nat):Int)).zip as=(as.zip ls).map fun z=>(((key z.2:Nat):Int),z.1):=by
  clear p1 p3
  induction as generalizing ls with
  | nil=>simp
  | cons a as ih=>
   cases ls with
   | nil=>simp
   | cons l ls=>simpa using ih (by simpa using hl)
 refine⟨_,rfl,?_,?_⟩
 ·have nn: ∀q∈ps,0≤q.1:=fun q hq=>by
   have:=p1.mem_iff.mp hq
   rw[ez]at this
   obtain⟨z,_,rfl⟩:=List.mem_map.mp this
   exact Int.natCast_nonneg _
  have e2:ps=(isort (fun z=>key z.2) (as.zip ls)).map fun z=>(((key z.2:Nat):Int),z.1):=by
   refine My.stable_unique (fun q:Int×Addr=>q.1.toNat) (p2.imp fun{a b} hab=>by omega) (List.pairwise_map.mpr ((isort_sorted _).imp fun{a b} hab=>by simpa using hab)) fun c=>?_
   have h1:=p3 (c:Int)
   have f1:ps.filter (fun q=>q.1.toNat==c)=ps.filter (fun q=>q.1==(c:Int)):=List.filter_congr fun q hq=>by
    have:=nn q hq
    rw[Bool.eq_iff_iff]
    simp only[beq_iff_eq]
    omega
   rw[f1,h1,ez,List.filter_map,List.filter_map]
   have f2:((fun q:Int×Addr=>q.1.toNat==c)∘fun z:Addr×α=>(((key z.2:Nat):Int),z.1))=fun z=>key z.2==c:=by
    funext z
    simp
   have f3:((fun q:Int×Addr=>q.1==(c:Int))∘fun z:Addr×α=>(((key z.2:Nat):Int),z.1))=fun z=>key z.2==c:=by
    funext z
    rw[Bool.eq_iff_iff]
    simp
    omega
   rw[f2,f3,isort_key (key:=fun z:Addr×α=>key z.2)]
  rw[e1,e2,List.map_map]
  rfl
 ·have h1:=isort_map key Prod.snd (as.zip ls)
  rw[List.map_snd_zip (by omega)]at h1
  exact h1.symm
def subs:Nat→List (List Nat)
 | 0=>[[]]
 | i+1=>subs i++(subs i).map (· ++[i])
def subsI(n:Nat):List (List Int):=(subs n).map (List.map fun k:Nat=>(k:Int))
def ordOf(n:Nat):Option (Array Nat):=runO (fun i j=>HT.lexLt ((subsI n).getD i []) ((subsI n).getD j [])) (2 ^ n) (PySem.W.kas_sort (2 ^ n))
def ordOk(n:Nat):Bool:=match ordOf n with
 | some p=>p.toList.all (fun i=>decide (i<2 ^ n))&&decide (p.toList.length≤sizeLine)&&(isort List.length (p.toList.map fun i=>(subs n).getD i [])==My.placeLists n)
 | none=>false
theorem ordOk1:ordOk 1=true:=by decide +kernel
theorem ordOk2:ordOk 2=true:=by decide +kernel
theorem ordOk3:ordOk 3=true:=by decide +kernel
theorem ordOk4:ordOk 4=true:=by decide +kernel
theorem ordOk5:ordOk 5=true:=by decide +kernel
theorem subs_len: ∀n,(subs n).length =2 ^ n
 | 0=>rfl
 | n+1=>by
  show(subs n++(subs n).map (· ++[n])).length =_
  rw[List.length_append,List.length_map,subs_len n,Nat.pow_succ]
  omega
theorem ord_ok{n:Nat}(h0:n≠0)(h5:n≤5): ∃p,ordOf n=some p∧(∀i∈p.toList,i<2 ^ n)∧p.toList.length≤sizeLine∧isort List.length (p.toList.map fun i=>(subs n).getD i [])=My.placeLists n:=by
 have h:ordOk n=true:=by
  match n,h0,h5 with
  | 1,_,_=>exact ordOk1
  | 2,_,_=>exact ordOk2
  | 3,_,_=>exact ordOk3
  | 4,_,_=>exact ordOk4
  | 5,_,_=>exact ordOk5
 unfold ordOk at h
 cases e:ordOf n with
 | none=>rw[e]at h;cases h
 | some p=>
  rw[e]at h
  simp only[Bool.and_eq_true,decide_eq_true_eq,beq_iff_eq,List.all_eq_true]at h
  exact⟨p,rfl,h.1.1,h.1.2,h.2⟩
section
variable {P:Program}{w:World}{K:PySem.W.Frag}{mg:Str→Option Value}{base:Heap}{t:Adr}
abbrev NsAt(H:Hp)(b:Addr)(ns:List Nat):Prop:=H b=some (.lst (ns.map nV))
theorem paired_append{α β:Type}{R:α→β→Prop}: ∀{as:List α} {bs:List β} {cs:List α} {ds:List β},Paired R as bs→Paired R cs ds→Paired R (as++cs) (bs++ds)
 | _,_,_,_,.nil,h=>h
 | _,_,_,_,.cons r t,h=> .cons r (paired_append t h)
theorem paired_zip{α β:Type}{R:α→β→Prop}: ∀{zs:List (α×β)},(∀z∈zs,R z.1 z.2)→Paired R (zs.map Prod.fst) (zs.map Prod.snd)
 | [],_=> .nil
 | _::_,h=> .cons (h _ (List.mem_cons_self ..)) (paired_zip fun z hz=>h z (List.mem_cons_of_mem _ hz))
theorem paired_mem{α β:Type}{R:α→β→Prop}: ∀{as:List α} {bs:List β} {z:α×β},Paired R as bs→z∈as.zip bs→R z.1 z.2
 | _,_,_,.nil,h=>by cases h
 | _,_,_,.cons r t,h=>by
  rw[List.zip_cons_cons]at h
  rcases List.mem_cons.mp h with e | m
  ·rw[e];exact r
  ·exact paired_mem t m
theorem paired_right{α β γ:Type}{R:α→γ→Prop}{f:β→γ}: ∀{as:List α} {bs:List β},Paired (fun a b=>R a (f b)) as bs→Paired R as (bs.map f)
 | _,_,.nil => .nil
 | _,_,.cons r t=> .cons r (paired_right t)
theorem isort_mem{α:Type}{key:α→Nat}{y:α}: ∀{l:List α},y∈isort key l→y∈l
 | [],h=>h
 | x::l,h=>by
  rcases isIns_mem h with e | m
  ·rw[e];exact List.mem_cons_self ..
  ·exact List.mem_cons_of_mem _ (isort_mem m)
theorem paired_pick{α β:Type}{R:α→β→Prop}{as:List α}{bs:List β}{d:α}{e:β}(h:Paired R as bs): ∀{l:List Nat},(∀i∈l,i<as.length)→Paired R (l.map fun i=>as.getD i d) (l.map fun i=>bs.getD i e)
 | [],_=> .nil
 | i::l,hl=>by
  refine .cons ?_ (paired_pick h fun j hj=>hl j (List.mem_cons_of_mem _ hj))
  have hi:=hl i (List.mem_cons_self ..)
  obtain⟨b,hb,r⟩:=paired_at h (List.getElem?_eq_getElem hi)
  dsimp only
  rw[List.getD_eq_getElem?_getD,List.getD_eq_getElem?_getD,List.getElem?_eq_getElem hi,hb]
  exact r
theorem subs_small{i:Nat}{ns:List Nat}:ns∈subs i→ns.length≤i:=by
 induction i generalizing ns with
 | zero=>intro h;rw[List.mem_singleton.mp h];exact Nat.le_refl _
 | succ i ih=>
  intro h
  rcases List.mem_append.mp h with h | h
  ·exact Nat.le_succ_of_le (ih h)
  ·obtain⟨m,hm,rfl⟩:=List.mem_map.mp h
   have:=ih hm
   rw[List.length_append]
   exact Nat.succ_le_succ this
inductive spLists(K:PySem.W.Frag)(vs:List V)(H:Hp)(Q:VK)(_:XK):Prop
 | mk (n:Nat) (_:vs=[nV n]) (_:n≤5) (_: ∀(H':Hp) (l:Addr) (as:List Addr),Same H H'→H l=none→H' l=some (.lst (as.map V.ref))→Paired (NsAt H') as (My.placeLists n)→Q (.ref l) H')
theorem ok_lists_of_places(T:Txt K mg t):FnOk P w K mg base CX0 1 t.f_lists_of_places t.d_lists_of_places ["count"] (spLists K):=by
 refine T.fu_lists_of_places.ok sc_lists_of_places (fun vs H Q E h=>?_) (fun cdv A outer s H vs Q E hr h=>?_)
 ·obtain⟨n,rfl,_⟩:=h
  rfl
 ·obtain⟨n,rfl,h5,k⟩:=h
  have nd:=sc_lists_of_places.nd
  refine⟨_,pss_cons (ps_set (i:=1) nd rfl (Or.inl rfl) (pe_lst (pa_cons (pe_lst pa_nil) pa_nil)))
   (pss_cons (ps_for PassesOwn.never rfl (pi_range1 rfl T.bn_range (pa_cons (pv 0) pa_nil)) (pg_name (i:=2) nd rfl (Or.inr rfl))
    (pss_one (ps_set (i:=1) nd rfl (Or.inl rfl) (pe_op op_cat (pv 1)
     (pe_lc (own:=[("places",3)]) rfl nd (pi_list (pv 1)) (show BlkOk n_lists_of_places (defScope s_lists_of_places) _ _ from blk_of (by decide +kernel))
      (fun _ _ _ _ _=>pg_name (i:=3) nd rfl (Or.inl rfl))
      (fun _ _ _ _ _=>pts_nil)
      (fun _ _ _ _ _=>pe_op op_cat (pv 3) (pe_lst (pa_cons (pv 2) pa_nil))))))))
   (pss_one (ps_ret (pe_sortLen rfl T.bn_sorted rfl T.bn_len (pa_cons (pe_callB (call_sortL hr) rfl T.bn_sorted boot_sorted (pa_cons (pv 1) pa_nil)) pa_nil))))),?_⟩
  refine⟨Nat.zero_le _,fun q0 hq0=>⟨by show 1≤sizeLine;decide,fun q hq=>?_⟩⟩
  have n0:q0≠q:=fun e=>by subst e;rw[upd_same]at hq;cases hq
  have hq':H q=none:=by rw[upd_ne (Ne.symm n0)]at hq;exact hq
  have s0:Same H (upd (upd H q0 (.lst [])) q (.lst [.ref q0])):=(Same.new hq0).trans (Same.new hq)
  refine⟨_,rfl,_,rfl,by omega,by omega,?_⟩
  rw[show((n:Nat):Int).toNat =n by omega]
  refine for_range (lo:=0) (n:=n) (fun i σ H'=> ∃(v2 v3:Option V) (a:Addr) (as:List Addr),σ=[some (nV n),some (.ref a),v2,v3]∧Same H H'∧H a=none∧H' a=some (.lst (as.map V.ref))∧Paired (NsAt H') as (subs i))
   ⟨none,none,q,[q0],rfl,s0,hq',upd_same,.cons (show NsAt _ q0 [] by show upd _ _ _ _=_;rw[upd_ne n0,upd_same];rfl) .nil⟩ ?_ ?_
  ·rintro i σ H1 hi ⟨v2,v3,a,as,rfl,s1,na,ha,pa⟩
   have la:as.length=2 ^ i:=by rw[Paired.length pa,subs_len]
   have l32:2 ^ i≤32:=Nat.pow_le_pow_right (by decide) (show i≤5 by omega)
   refine⟨_,rfl,_,rfl,a,rfl,⟨_,SqL.of ha⟩,fun D hD=>?_⟩
   refine lc_list (K:=K) (a:=a) (xs:=as.map V.ref) (fun j H2=>Same H1 H2∧ ∃bs:List Addr,H2 D=some (.lst (bs.map V.ref))∧Paired (fun b ns=>b≠D∧NsAt H2 b ns) bs (((subs i).take j).map (· ++[i])))
    ⟨Same.new hD,[],upd_same,.nil⟩ (fun j H2 _ e=>e.1.seq (SqL.of ha)) ?_ ?_
   ·rintro j x H2 hj ⟨s2,bs,hb,pb⟩
    rw[List.getElem?_map]at hj
    obtain⟨b,hb1,rfl⟩:=Option.map_eq_some_iff.mp hj
    obtain⟨ns,hns,hN⟩:=paired_at pa hb1
    have hN2:=s2 _ _ hN
    have nl:=subs_small (List.mem_of_getElem? hns)
    have bl:bs.length≤1000:=by
     rw[Paired.length pb,List.length_map,List.length_take,subs_len]
     omega
    refine⟨rfl,_,rfl,_,rfl,by show 1≤sizeLine;decide,fun p hp=>?_⟩
    have s3:Same H2 (upd H2 p (.lst [.int (0+(i:Int))])):=Same.new hp
    refine⟨b,p,_,_,rfl,rfl,s3 _ _ hN2,upd_same,?_,fun p2 hp2=>?_⟩
    ·rw[List.length_map]
     show ns.length+1≤sizeLine
     exact Nat.le_trans (show ns.length+1≤6 by omega) (by decide)
    have s4:Same (upd H2 p (.lst [.int (0+(i:Int))])) (upd (upd H2 p (.lst [.int (0+(i:Int))])) p2 (.lst (ns.map nV++[.int (0+(i:Int))]))):=Same.new hp2
    have hb4:=s4 _ _ (s3 _ _ hb)
    have n2:p2≠D:=fun e=>by subst e;rw[s3 _ _ hb]at hp2;cases hp2
    refine⟨_,hb4,by rw[List.length_map];exact small1000 bl,fun c o e=>?_,bs++[p2],by rw[upd_same,List.map_append];rfl,?_⟩
    ·rw[upd_ne (ne_of_none e hD)]
     exact s4 _ _ (s3 _ _ (s2 _ _ e))
    ·rw[List.take_add_one,hns,List.map_append]
     refine paired_snoc (R:=fun b ns=>b≠D∧NsAt _ b ns) ⟨n2,?_⟩ (Paired.mapP pb fun c m ⟨h1,h2⟩=>⟨h1,?_⟩)
     ·show upd _ _ _ _=_
      rw[upd_ne n2,upd_same,List.map_append]
      show some (HO.lst (ns.map nV++[V.int (0+(i:Int))]))=some (HO.lst (ns.map nV++[V.int (i:Int)]))
      rw[Int.zero_add]
     ·show upd _ _ _ _=_
      rw[upd_ne h1]
      exact s4 _ _ (s3 _ _ h2)
   ·rintro H2 ⟨s2,bs,hb,pb⟩
    rw[List.length_map,la,←subs_len i,List.take_length]at pb
    have lb:bs.length=2 ^ i:=by rw[Paired.length pb,List.length_map,subs_len]
    refine⟨a,D,_,_,rfl,rfl,s2 _ _ ha,hb,?_,fun p hp=>?_⟩
    ·rw[List.length_map,List.length_map,la,lb]
     exact Nat.le_trans (show 2 ^ i+2 ^ i≤64 by omega) (by decide)
    ·have s3:Same H2 (upd H2 p (.lst (as.map V.ref++bs.map V.ref))):=Same.new hp
     refine⟨_,_,p,as++bs,rfl,(s1.trans s2).trans s3,?_,by rw[upd_same,List.map_append],?_⟩
     ·cases e:H p with
      | none=>rfl
      | some o=>rw[s2 _ _ (s1 _ _ e)]at hp;cases hp
     ·exact paired_append (Paired.mapP pa fun _ _ h=>s3 _ _ (s2 _ _ h)) (Paired.mapP pb fun _ _ h=>s3 _ _ h.2)
  ·rintro σ H1 ⟨v2,v3,a,as,rfl,s1,na,ha,pa⟩
   have la:as.length=2 ^ n:=by rw[Paired.length pa,subs_len]
   have fin: ∀(D:Addr) (cs:List Addr) (ms:List (List Nat)),H1 D=none→Paired (NsAt H1) cs ms→isort List.length ms=My.placeLists n→
     ∃(a:Addr) (as:List Addr) (ks:List Int),V.ref D= .ref a∧SqL K (upd H1 D (.lst (cs.map V.ref))) a (as.map V.ref)∧ks.length=as.length∧
      (∀(i:Nat) (b:Addr) (z:Int),as[i]? =some b→ks[i]? =some z→ ∃ys:List V,SqL K (upd H1 D (.lst (cs.map V.ref))) b ys∧z=ys.length)∧
      ∀(D2:Addr) (bs:List Addr),upd H1 D (.lst (cs.map V.ref)) D2=none→SortedA ks as bs→Q (.ref D2) (upd (upd H1 D (.lst (cs.map V.ref))) D2 (.lst (bs.map V.ref))):=by
    intro D cs ms hD pc em
    have s2:Same H1 (upd H1 D (.lst (cs.map V.ref))):=Same.new hD
    refine⟨D,cs,ms.map (fun l=>((l.length:Nat):Int)),rfl,SqL.of upd_same,by rw[List.length_map,Paired.length pc],fun i b z h1 h2=>?_,fun D2 bs h2 hs=>?_⟩
    ·obtain⟨m,hm,hN⟩:=paired_at pc h1
     rw[List.getElem?_map,hm]at h2
     refine⟨_,SqL.of (s2 _ _ hN),?_⟩
     rw[List.length_map]
     exact(Option.some.inj h2).symm
    ·have s3:Same (upd H1 D (.lst (cs.map V.ref))) (upd (upd H1 D (.lst (cs.map V.ref))) D2 (.lst (bs.map V.ref))):=Same.new h2
     obtain⟨zs,ez,eb,em2⟩:=sortedA_isort (key:=List.length) (Paired.length pc) hs
     refine k _ D2 bs ((s1.trans s2).trans s3) ?_ upd_same ?_
     ·cases e:H D2 with
      | none=>rfl
      | some o=>rw[s2 _ _ (s1 _ _ e)]at h2;cases h2
     ·rw[←em,←em2]
      have z2:Paired (NsAt (upd (upd H1 D (.lst (cs.map V.ref))) D2 (.lst (bs.map V.ref)))) (zs.map Prod.fst) (zs.map Prod.snd):=paired_zip fun z hz=>by
       rw[ez]at hz
       exact s3 _ _ (s2 _ _ (paired_mem pc (isort_mem hz)))
      rw[←eb]at z2
      exact z2
   refine⟨_,rfl,_,rfl,a,as,subsI n,?_⟩
   have pI:Paired (fun b ns=>H1 b=some (.lst (ns.map V.int))) as (subsI n):=paired_right (Paired.mapP pa fun b ns h=>by
    show H1 b=_
    rw[h,List.map_map]
    rfl)
   by_cases h0:n=0
   ·subst h0
    match as,la,pa,ha,pI with
    | [b],_,pa,ha,pI=>
     refine⟨#[],rfl,SqL.of ha,pI,.inl ⟨b,rfl,fun D hD=>?_⟩⟩
     exact fin D [b] (subs 0) hD pa (by decide)
   ·obtain⟨p,e1,e2,e3,e4⟩:=ord_ok h0 h5
    have g2:2 ^ 1≤2 ^ n:=Nat.pow_le_pow_right (by decide) (show 1≤n by omega)
    have g32:2 ^ n≤32:=Nat.pow_le_pow_right (by decide) h5
    refine⟨p,rfl,SqL.of ha,pI,.inr ⟨by omega,by omega,by rw[la];exact e2,e3,by rw[la];exact e1,fun D hD=>?_⟩⟩
    exact fin D _ _ hD (paired_pick pa fun i hi=>by rw[la];exact e2 i hi) e4
theorem leave_mem{α:Type}{l:List α}{places:List Nat}{x:α}(h:x∈My.leaveOut l places):x∈l:=by
 unfold My.leaveOut at h
 obtain⟨y,hy,rfl⟩:=List.mem_map.mp h
 have q:=List.mem_map_of_mem (f:=Prod.fst) (List.mem_filter.mp hy).1
 rw[My.zipIdx_fst]at q
 exact q
theorem leave_len{α:Type}(l:List α)(places:List Nat):(My.leaveOut l places).length ≤l.length:=by
 unfold My.leaveOut
 rw[List.length_map]
 refine Nat.le_trans (List.length_filter_le ..) ?_
 rw[List.length_zipIdx]
 exact Nat.le_refl _
theorem leave_all{α:Type}(l:List α):My.leaveOut l (List.range l.length)=[]:=by
 unfold My.leaveOut
 rw[List.map_eq_nil_iff,List.filter_eq_nil_iff]
 rintro⟨x,i⟩ h
 have:=(List.mem_zipIdx h).2.1
 have:i<l.length:=by omega
 simp[this]
theorem places_last: ∀{n:Nat},n≤5→0<(My.placeLists n).length ∧(My.placeLists n)[(My.placeLists n).length -1]? =some (List.range n)
 | 0,_=>by decide +kernel
 | 1,_=>by decide +kernel
 | 2,_=>by decide +kernel
 | 3,_=>by decide +kernel
 | 4,_=>by decide +kernel
 | 5,_=>by decide +kernel
 | _+6,h=>absurd h (by omega)
inductive spFewest(t:Adr)(K:PySem.W.Frag)(vs:List V)(H:Hp)(Q:VK)(_:XK):Prop
 | mk (l:Addr) (ws:List My.Wn) (_:vs=[.ref l]) (_:WantsAt t K H l ws) (_:(∀v∈ws,v.ch.length≤1000)) (_:ws.length≤5) (_: ∀(H':Hp) (a:Addr) (i:Nat) (places:List Nat),Same H H'→(My.placeLists ws.length)[i]? =some places→My.Giv (My.leaveOut ws places)→(∀j pl,j<i→(My.placeLists ws.length)[j]? =some pl→ ¬My.Giv (My.leaveOut ws pl))→NsAt H' a places→Q (.ref a) H')
theorem ok_fewest_left_out(T:Txt K mg t):FnOk P w K mg base CX0 11 t.f_fewest_left_out t.d_fewest_left_out ["wants"] (spFewest t K):=by
 refine T.fu_fewest_left_out.ok sc_fewest_left_out (fun vs H Q E h=>?_) (fun cdv A outer s H vs Q E hr h=>?_)
 ·obtain⟨l,ws,rfl,_⟩:=h
  rfl
 ·obtain⟨l,ws,rfl,⟨ras,hS,hP⟩,hch,h5,k⟩:=h
  have nd:=sc_fewest_left_out.nd
  refine⟨_,pss_cons (ps_set (i:=1) nd rfl (Or.inl rfl) (pe_call (ok_lists_of_places T) (hr.mono (by omega)) rfl T.mg_lists_of_places T.fu_lists_of_places.kp T.bi_lists_of_places .nil pass0
    (pa_cons (pe_callB call_len_seq rfl T.bn_len PySem.boot_len (pa_cons (pv 0) pa_nil)) pa_nil)))
   (pss_cons (ps_set (i:=2) nd rfl (Or.inl rfl) pe_int)
   (pss_cons (ps_while PassesOwn.never (pt_not (pt_val (pe_call (ok_can_all_be_given T 5) (hr.mono (by omega)) rfl T.mg_can_all_be_given T.fu_can_all_be_given.kp T.bi_can_all_be_given .nil pass0
     (pa_cons (pe_call (ok_without T) (hr.mono (by omega)) rfl T.mg_without T.fu_without.kp T.bi_without .nil pass0
      (pa_cons (pv 0) (pa_cons (pe_ix ix_list (pv 1) (pv 2) (fun _ _=>rfl)) pa_nil))) pa_nil))))
    (pss_one (ps_aug (i:=2) nd rfl (Or.inl rfl) pe_int ip_add)))
   (pss_one (ps_ret (pe_ix ix_list (pv 1) (pv 2) (fun _ _=>rfl)))))),?_⟩
  refine⟨_,rfl,l,_,rfl,.inl hS,?_⟩
  have el:(ras.map V.ref).length =ws.length:=by rw[List.length_map,Paired.length hP]
  rw[el]
  refine⟨_,rfl,h5,fun H1 q as s1 hq hb pb=>?_⟩
  obtain⟨lp,hlast⟩:=places_last h5
  have lenp:=Paired.length pb
  refine⟨fun m σ H'=> ∃i:Nat,i<(My.placeLists ws.length).length ∧m=(My.placeLists ws.length).length -i∧σ=[some (.ref l),some (.ref q),some (nV i)]∧Same H1 H'∧
   ∀j pl,j<i→(My.placeLists ws.length)[j]? =some pl→ ¬My.Giv (My.leaveOut ws pl),⟨_,0,lp,rfl,rfl,Same.refl _,fun j pl hj=>absurd hj (Nat.not_lt_zero _)⟩,?_⟩
  rintro m σ H2 ⟨i,hi,rfl,rfl,s2,hno⟩
  have hpl:(My.placeLists ws.length)[i]? =some ((My.placeLists ws.length)[i]):=List.getElem?_eq_getElem hi
  generalize (My.placeLists ws.length)[i]=pl at hpl
  have hai:i<as.length:=by rw[lenp];exact hi
  have hia:as[i]? =some as[i]:=List.getElem?_eq_getElem hai
  generalize as[i]=b at hia
  obtain⟨pl',e',hN⟩:=paired_at pb hia
  obtain rfl:pl=pl':=Option.some.inj (hpl.symm.trans e')
  have s02:=s1.trans s2
  have ix:atI (as.map V.ref) ((i:Nat):Int)=some (V.ref b):=atI_nat (by rw[List.getElem?_map,hia];rfl)
  refine⟨_,rfl,_,rfl,_,rfl,q,_,_,_,rfl,rfl,SqL.of (s2 _ _ hb),ix,?_⟩
  refine⟨l,b,ws,pl,rfl,⟨ras,s02.seq hS,Paired.mapP hP fun _ _ h=>h.same s02⟩,SqL.of (s2 _ _ hN),by omega,fun H3 l3 s3 n3 w3=>?_⟩
  refine⟨l3,_,rfl,w3,fun v hv=>hch v (leave_mem hv),Nat.le_trans (leave_len ..) h5,by omega,fun H4 g s4 hg=>?_⟩
  have s24:=(s2.trans s3).trans s4
  refine⟨_,rfl,?_⟩
  cases g with
  | true=>
   refine iteF ⟨_,rfl,_,rfl,q,_,_,_,rfl,rfl,SqL.of (s24 _ _ hb),ix,?_⟩
   exact k H4 b i pl (s1.trans s24) hpl (hg.mp rfl) hno (s24 _ _ hN)
  | false=>
   have ng: ¬My.Giv (My.leaveOut ws pl):=fun h=>by cases hg.mpr h
   have hi1:i+1<(My.placeLists ws.length).length :=by
    rcases Nat.lt_or_ge (i+1) (My.placeLists ws.length).length with h | h
    ·exact h
    ·have e:i=(My.placeLists ws.length).length -1:=by omega
     rw[←e,hpl]at hlast
     rw[Option.some.inj hlast,leave_all]at ng
     exact absurd My.giv_nil ng
   refine iteT ⟨_,fun σ' H' h=>h,?_⟩
   refine⟨_,rfl,_,_,rfl,rfl,?_⟩
   exact⟨_,Nat.sub_lt_sub_left hi (Nat.lt_succ_self i),i+1,hi1,rfl,rfl,s24,fun j p2 hj h2=>by
    rcases Nat.lt_or_ge j i with c | c
    ·exact hno j p2 c h2
    ·have:j=i:=by omega
     subst this
     rw[hpl]at h2
     rw[←Option.some.inj h2]
     exact ng⟩
end
def ptyF(no:Nat)(p:Vbhoae.Party)(bv:V):List (Str×V):=[("number",nV no),("size",nV p.size),("time_from",nV p.from_),("time_to",nV p.to_),("stage",nV p.stage),("block",bv)]
def HasB(p:Vbhoae.Party):Prop:=p.stage=1∨p.stage=2
instance (p:Vbhoae.Party):Decidable (HasB p):=inferInstanceAs (Decidable (_∨_))
def BvAt(t:Adr)(H:Hp)(r:Vbhoae.Room)(p:Vbhoae.Party)(bv:V):Prop:=(HasB p∧ ∃c,bv= .ref c∧BlkAt t H c r p.block)∨(¬HasB p∧bv= .non)
inductive PtyAt(t:Adr)(H:Hp)(r:Vbhoae.Room)(a:Addr)(x:Vbhoae.Party×Nat):Prop
 | mk (dx bv) (_:H a=some (.ins t.c_Party dx (ptyF x.2 x.1 bv))) (_:BvAt t H r x.1 bv)
def houseF(s:Vbhoae.State)(lb lr lp:Addr):List (Str×V):=[("is_open",.bl s.opened),("loss",nV s.room.loss),("clearing",nV s.clearing),("rows",.ref lr),("blocks",.ref lb),("now",nV s.now),("parties",.ref lp)]
def RowAt(H:Hp)(a:Addr)(r:List Nat):Prop:=H a=some (.lst (r.map nV))
structure HouseIs(t:Adr)(H:Hp)(s:Vbhoae.State)(h dx xb xr xp:Addr)(bas ras pas:List Addr):Prop where
 self:H h=some (.ins t.c_House dx (houseF s xb xr xp))
 lb:H xb=some (.lst (bas.map V.ref))
 bs:Blks t H s.room bas (Vbhoae.blocks s.room)
 lr:H xr=some (.lst (ras.map V.ref))
 rs:Paired (RowAt H) ras s.room.rows
 lp:H xp=some (.lst (pas.map V.ref))
 ps:Paired (PtyAt t H s.room) pas (s.parties.zipIdx 1)
 nb:xb≠xp
 nr:xr≠xp
 nrs: ∀a∈ras,a≠xp
 few:s.parties.length≤60
inductive HouseAt(t:Adr)(H:Hp)(h:Addr)(s:Vbhoae.State):Prop
 | mk (dx lb lr lp bas ras pas) (_:HouseIs t H s h dx lb lr lp bas ras pas)
inductive HouseLp(t:Adr)(H:Hp)(h lp:Addr)(s:Vbhoae.State):Prop
 | mk (dx lb lr bas ras pas) (_:HouseIs t H s h dx lb lr lp bas ras pas)
section
variable {P:Program}{w:World}{K:PySem.W.Frag}{mg:Str→Option Value}{base:Heap}{t:Adr}
theorem BvAt.same{H H':Hp}{r:Vbhoae.Room}{p:Vbhoae.Party}{bv:V}(s:Same H H')(h:BvAt t H r p bv):BvAt t H' r p bv:=by
 rcases h with ⟨h,c,e,b⟩ | h
 ·exact .inl ⟨h,c,e,b.same s⟩
 ·exact .inr h
theorem PtyAt.same{H H':Hp}{r:Vbhoae.Room}{a:Addr}{x:Vbhoae.Party×Nat}(s:Same H H')(h:PtyAt t H r a x):PtyAt t H' r a x:=by
 obtain⟨dx,bv,h1,h2⟩:=h
 exact⟨dx,bv,s _ _ h1,h2.same s⟩
theorem HouseIs.same{H H':Hp}{s:Vbhoae.State}{h dx lb lr lp:Addr}{bas ras pas:List Addr}(q:Same H H')(I:HouseIs t H s h dx lb lr lp bas ras pas):HouseIs t H' s h dx lb lr lp bas ras pas:=
 ⟨q _ _ I.self,q _ _ I.lb,Paired.mapP (show Paired (fun a b=>BlkAt t H a s.room b) _ _ from I.bs) fun _ _ h=>h.same q,q _ _ I.lr,Paired.mapP I.rs fun _ _ h=>q _ _ h,q _ _ I.lp,Paired.mapP I.ps fun _ _ h=>h.same q,I.nb,I.nr,I.nrs,I.few⟩
theorem Same.none{H H':Hp}{a:Addr}(s:Same H H')(h:H' a=none):H a=none:=by
 cases e:H a with
 | none=>rfl
 | some o=>rw[s _ _ e]at h;cases h
inductive IsPty(o:HO):Prop
 | mk (C dx no p bv) (_:o= .ins C dx (ptyF no p bv))
def Fr(h lp:Addr)(H H':Hp):Prop:=(∀b o,H b=some o→b≠h→b≠lp→ ¬IsPty o→H' b=some o)∧ ∀b,H' b=none→H b=none
theorem Fr.of{h lp:Addr}{H H':Hp}(s:Same H H'):Fr h lp H H':=⟨fun b o e _ _ _=>s b o e,fun b e=>Same.none s e⟩
theorem Fr.trans{h lp:Addr}{H H' H2:Hp}(a:Fr h lp H H')(b:Fr h lp H' H2):Fr h lp H H2:=⟨fun c o e h1 h2 h3=>b.1 c o (a.1 c o e h1 h2 h3) h1 h2 h3,fun c e=>a.2 c (b.2 c e)⟩
theorem upd_none{H:Hp}{a b:Addr}{o:HO}(e:upd H a o b=none):H b=none:=by
 by_cases n:b=a
 ·rw[n,upd_same]at e
  cases e
 ·rw[upd_ne n]at e
  exact e
theorem lst_noPty(xs:List V): ¬IsPty (.lst xs):=by
 rintro⟨C,dx,no,p,bv,e⟩
 cases e
theorem head_ne{x y:Str}{u v:V}{l m:List (Str×V)}(hn:x≠y):(x,u)::l≠(y,v)::m:=fun e=>hn (Prod.mk.inj (List.cons.inj e).1).1
theorem pty_house{no:Nat}{p:Vbhoae.Party}{bv:V}{s:Vbhoae.State}{lb lr lp:Addr}{C D dx dy:Addr}:HO.ins C dx (ptyF no p bv)≠HO.ins D dy (houseF s lb lr lp):=fun e=>head_ne (by decide) (HO.ins.inj e).2.2
theorem pty_blk{no:Nat}{p:Vbhoae.Party}{bv:V}{a b c d e f:Nat}{C D dx dy:Addr}:HO.ins C dx (ptyF no p bv)≠HO.ins D dy (blkF a b c d e f):=fun e=>head_ne (by decide) (HO.ins.inj e).2.2
theorem blk_house{s:Vbhoae.State}{lb lr lp:Addr}{a b c d e f:Nat}{C D dx dy:Addr}:HO.ins C dx (blkF a b c d e f)≠HO.ins D dy (houseF s lb lr lp):=fun e=>head_ne (by decide) (HO.ins.inj e).2.2
theorem pty_num{no no':Nat}{p p':Vbhoae.Party}{bv bv':V}{C D dx dy:Addr}(e:HO.ins C dx (ptyF no p bv)=HO.ins D dy (ptyF no' p' bv')):no=no':=by
 have h:=(Prod.mk.inj (List.cons.inj (HO.ins.inj e).2.2).1).2
 have:=V.int.inj h
 omega
theorem paired_of{α β:Type}{R:α→β→Prop}: ∀{as:List α} {bs:List β},as.length=bs.length→(∀(i:Nat) a b,as[i]? =some a→bs[i]? =some b→R a b)→Paired R as bs
 | [],[],_,_=> .nil
 | a::as,b::bs,h,k=> .cons (k 0 a b rfl rfl) (paired_of (Nat.succ.inj h) fun i x y hx hy=>k (i+1) x y hx hy)
 | [],_::_,h,_=>by cases h
 | _::_,[],h,_=>by cases h
theorem zip_at{l:List Vbhoae.Party}{i:Nat}{x:Vbhoae.Party×Nat}(h:(l.zipIdx 1)[i]? =some x):l[i]? =some x.1∧x.2=i+1:=by
 rw[List.getElem?_zipIdx]at h
 obtain⟨z,hz,rfl⟩:=Option.map_eq_some_iff.mp h
 exact⟨hz,by show 1+i=i+1;omega⟩
theorem blk_off{H:Hp}{a c:Addr}{r:Vbhoae.Room}{b:Vbhoae.Block}{o u:HO}(ha:H a=some u)(hu:IsPty u)(h:BlkAt t H c r b):BlkAt t (upd H a o) c r b:=by
 obtain⟨dx,h⟩:=h
 obtain⟨C,dy,no,p,bv,rfl⟩:=hu
 refine⟨dx,?_⟩
 rw[upd_ne (Ne.symm (ne_of ha h pty_blk))]
 exact h
theorem HouseIs.put{H:Hp}{s:Vbhoae.State}{h dx lb lr lp:Addr}{bas ras pas:List Addr}(I:HouseIs t H s h dx lb lr lp bas ras pas){i:Nat}{a dp:Addr}{p:Vbhoae.Party}{bv bv':V}{g:Vbhoae.Party→Vbhoae.Party}(hi:pas[i]? =some a)(hp:s.parties[i]? =some p)
  (ha:H a=some (.ins t.c_Party dp (ptyF (i+1) p bv)))(hb:BvAt t H s.room (g p) bv'):HouseIs t (upd H a (.ins t.c_Party dp (ptyF (i+1) (g p) bv'))) (Vbhoae.setParty s (i+1) g) h dx lb lr lp bas ras pas:=by
 have isP:IsPty (.ins t.c_Party dp (ptyF (i+1) p bv)):=⟨_,_,_,_,_,rfl⟩
 have nl: ∀{b:Addr} {xs:List V},H b=some (.lst xs)→upd H a (.ins t.c_Party dp (ptyF (i+1) (g p) bv')) b=some (.lst xs):=fun{b xs} e=>by
  rw[upd_ne (ne_of e ha (by intro z;cases z))]
  exact e
 refine⟨?_,nl I.lb,Paired.mapP (show Paired (fun a b=>BlkAt t H a s.room b) _ _ from I.bs) fun _ _ q=>blk_off ha isP q,nl I.lr,Paired.mapP I.rs fun _ _ q=>nl q,nl I.lp,?_,I.nb,I.nr,I.nrs,by show(Vbhoae.mapAt g i s.parties).length ≤60;rw[My.mapAt_len];exact I.few⟩
 ·rw[upd_ne (Ne.symm (ne_of ha I.self pty_house))]
  exact I.self
 ·have e:(Vbhoae.setParty s (i+1) g).parties =Vbhoae.mapAt g i s.parties:=rfl
  rw[e]
  have ll:=Paired.length I.ps
  rw[List.length_zipIdx]at ll
  refine paired_of (by rw[List.length_zipIdx,My.mapAt_len];exact ll) fun j b x hj hx=>?_
  obtain⟨hx1,hx2⟩:=zip_at hx
  obtain⟨x1,x2⟩:=x
  dsimp only at hx1 hx2
  subst hx2
  rw[My.mapAt_get]at hx1
  obtain⟨y,hy,dy,bw,q1,q2⟩:=paired_at I.ps hj
  obtain⟨hy1,hy2⟩:=zip_at hy
  obtain⟨y1,y2⟩:=y
  dsimp only at hy1 hy2 q1 q2
  subst hy2
  by_cases hji:j=i
  ·subst hji
   rw[if_pos rfl,hp]at hx1
   cases hx1
   rw[hi]at hj
   cases hj
   refine⟨dp,bv',upd_same,?_⟩
   rcases hb with ⟨b1,c,b2,b3⟩ | b1
   ·exact .inl ⟨b1,c,b2,blk_off ha isP b3⟩
   ·exact .inr b1
  ·rw[if_neg hji,hy1]at hx1
   cases hx1
   have nab:b≠a:=fun z=>by
    rw[z,ha]at q1
    have:=pty_num (Option.some.inj q1)
    omega
   refine⟨dy,bw,by rw[upd_ne nab];exact q1,?_⟩
   rcases q2 with ⟨b1,c,b2,b3⟩ | b1
   ·exact .inl ⟨b1,c,b2,blk_off ha isP b3⟩
   ·exact .inr b1
theorem Fr.put{H:Hp}{h lp a:Addr}{u o:HO}(ha:H a=some u)(hu:IsPty u):Fr h lp H (upd H a o):=⟨fun b v e _ _ n=>by
 rw[upd_ne fun z=>n (by rw[z,ha]at e;cases e;exact hu)]
 exact e,fun b e=>upd_none e⟩
theorem HouseIs.add{H:Hp}{s:Vbhoae.State}{h dx lb lr lp:Addr}{bas ras pas:List Addr}(I:HouseIs t H s h dx lb lr lp bas ras pas){a:Addr}{p:Vbhoae.Party}(hp:PtyAt t H s.room a (p,s.parties.length+1))(hl:s.parties.length<60):
  HouseIs t (upd H lp (.lst ((pas++[a]).map V.ref))) (Vbhoae.withParty s p) h dx lb lr lp bas ras (pas++[a]):=by
 have ni: ∀{b C dx:Addr} {fs:List (Str×V)},H b=some (.ins C dx fs)→upd H lp (.lst ((pas++[a]).map V.ref)) b=some (.ins C dx fs):=fun{b C dx fs} e=>by
  rw[upd_ne (ne_of e I.lp (by intro z;cases z))]
  exact e
 have nB: ∀{c:Addr} {b:Vbhoae.Block},BlkAt t H c s.room b→BlkAt t (upd H lp (.lst ((pas++[a]).map V.ref))) c s.room b:=fun{c b} ⟨dx,q⟩=>⟨dx,ni q⟩
 have nP: ∀{c:Addr} {x:Vbhoae.Party×Nat},PtyAt t H s.room c x→PtyAt t (upd H lp (.lst ((pas++[a]).map V.ref))) s.room c x:=fun{c x} ⟨dx,bv,q1,q2⟩=>by
  refine⟨dx,bv,ni q1,?_⟩
  rcases q2 with ⟨b1,c,b2,b3⟩ | b1
  ·exact .inl ⟨b1,c,b2,nB b3⟩
  ·exact .inr b1
 refine⟨ni I.self,by rw[upd_ne I.nb];exact I.lb,Paired.mapP (show Paired (fun a b=>BlkAt t H a s.room b) _ _ from I.bs) fun _ _ q=>nB q,by rw[upd_ne I.nr];exact I.lr,?_,upd_same,?_,I.nb,I.nr,I.nrs,by show(s.parties++[p]).length ≤60;rw[List.length_append];exact hl⟩
 ·have ll:=Paired.length I.rs
  refine paired_of ll fun i b r hi hr=>?_
  obtain⟨r2,h2,q⟩:=paired_at I.rs hi
  have hr2:s.room.rows[i]? =some r:=hr
  rw[hr2]at h2
  cases h2
  show upd H lp _ b=_
  rw[upd_ne (I.nrs b (List.mem_of_getElem? hi))]
  exact q
 ·have e:(Vbhoae.withParty s p).parties.zipIdx 1=s.parties.zipIdx 1++[(p,s.parties.length+1)]:=by
   show(s.parties++[p]).zipIdx 1=_
   rw[List.zipIdx_append]
   simp[Nat.add_comm]
  rw[e]
  exact paired_snoc (R:=PtyAt t (upd H lp (.lst ((pas++[a]).map V.ref))) s.room) (nP hp) (Paired.mapP I.ps fun _ _ q=>nP q)
theorem Fr.add{H:Hp}{h lp:Addr}{o:HO}:Fr h lp H (upd H lp o):=⟨fun b v e _ n _=>by
 rw[upd_ne n]
 exact e,fun b e=>upd_none e⟩
inductive spEnd(t:Adr)(vs:List V)(H:Hp)(Q:VK)(_:XK):Prop
 | mk (h:Addr) (s:Vbhoae.State) (n:Nat) (_:vs=[.ref h,nV n]) (_:HouseAt t H h s) (_:Q (nV (n+s.clearing)) H)
theorem ok_end_of_use(T:Txt K mg t):FnOk P w K mg base CX0 1 t.f_House_end_of_use t.d_House_end_of_use ["self","time_to"] (spEnd t):=by
 refine T.fu_House_end_of_use.ok sc_House_end_of_use (fun vs H Q E h=>?_) (fun cdv A outer s H vs Q E hr h=>?_)
 ·obtain⟨h,s,n,rfl,_⟩:=h
  rfl
 ·obtain⟨h,s,n,rfl,⟨dx,lb,lr,lp,bas,ras,pas,I⟩,k⟩:=h
  refine⟨_,pss_one (ps_ret (pe_op op_add (pv 1) (pe_fld (pv 0) rfl))),?_⟩
  refine⟨_,rfl,_,rfl,h,t.c_House,dx,_,_,rfl,I.self,T.cl_House,T.no_House_clearing,rfl,_,_,rfl,rfl,?_⟩
  have e:((n:Nat):Int)+((s.clearing:Nat):Int)=((n+s.clearing:Nat):Int):=by omega
  show Q (.int (((n:Nat):Int)+((s.clearing:Nat):Int))) H
  rw[e]
  exact k
inductive spUsers(t:Adr)(vs:List V)(H:Hp)(Q:VK)(_:XK):Prop
 | mk (h:Addr) (s:Vbhoae.State) (m:Nat) (_:vs=[.ref h,nV m]) (_:HouseAt t H h s) (_: ∀(H':Hp) (l:Addr) (as:List Addr),Same H H'→H l=none→H' l=some (.lst (as.map V.ref))→Paired (PtyAt t H' s.room) as (My.users s m)→Q (.ref l) H')
theorem ok_users_from(T:Txt K mg t):FnOk P w K mg base CX0 2 t.f_House_users_from t.d_House_users_from ["self","minute"] (spUsers t):=by
 refine T.fu_House_users_from.ok sc_House_users_from (fun vs H Q E h=>?_) (fun cdv A outer s H vs Q E hr h=>?_)
 ·obtain⟨h,s,m,rfl,_⟩:=h
  rfl
 ·obtain⟨h,st,m,rfl,⟨dx,lb,lr,lp,bas,ras,pas,I⟩,k⟩:=h
  have h60:=I.few
  have nd:=sc_House_users_from.nd
  refine⟨_,pss_cons (ps_setLc (i:=2) (own:=[("party",3)]) rfl nd rfl rfl (sw_true rfl rfl rfl rfl) (pi_list (pe_fld (pv 0) rfl))
     (show BlkOk n_House_users_from (defScope s_House_users_from) _ _ from blk_of (by decide +kernel))
     (fun _ _ _ _ _=>pg_name (i:=3) nd rfl (Or.inl rfl)) (fun _ _ _ _ _=>pts_one (pt_cmpR op_notN (bk_fld (pv 3) rfl) pe_non (by rfl))) (fun _ _ _ _ _=>pv 3))
   (pss_one (ps_ret (pe_lc (own:=[("party",3)]) rfl nd (pi_list (pv 2)) (show BlkOk n_House_users_from (defScope s_House_users_from) _ _ from blk_of (by decide +kernel))
    (fun _ _ _ _ _=>pg_name (i:=3) nd rfl (Or.inl rfl))
    (fun _ _ _ _ _=>pts_one (pt_cmpR op_gt (pe_meth (pv 0) T.cl_House T.me_House_end_of_use (ok_end_of_use T) hr T.bi_House_end_of_use .nil pass0 (pa_cons (bk_fld (pv 3) rfl) pa_nil)) (pv 1) (by rfl)))
    (fun _ _ _ _ _=>pv 3)))),?_⟩
  refine⟨_,rfl,h,t.c_House,dx,_,_,rfl,I.self,T.cl_House,T.no_House_parties,rfl,lp,rfl,⟨_,SqL.of I.lp⟩,fun D hD=>?_⟩
  have s1: ∀o,Same H (upd H D o):=fun o=>Same.new hD
  let f:Vbhoae.Party×Nat→Bool:=fun x=>decide (HasB x.1)
  refine lc_list (K:=K) (a:=lp) (xs:=pas.map V.ref) (fun j H2=>H2=upd H D (.lst ((pick f (pas.take j) ((st.parties.zipIdx 1).take j)).map V.ref))) rfl (fun j H2 _ e=>by rw[e];exact(s1 _).seq (SqL.of I.lp)) ?_ ?_
  ·rintro j y H2 hj e
   rw[List.getElem?_map]at hj
   obtain⟨a,ha,rfl⟩:=Option.map_eq_some_iff.mp hj
   obtain⟨x,hx,dp,bv,hp,hbv⟩:=paired_at I.ps ha
   subst e
   have g:=s1 (.lst ((pick f (pas.take j) ((st.parties.zipIdx 1).take j)).map V.ref)) _ _ hp
   have ll:(pas.take j).length =((st.parties.zipIdx 1).take j).length :=by rw[List.length_take,List.length_take,Paired.length I.ps]
   have et:pick f (pas.take (j+1)) ((st.parties.zipIdx 1).take (j+1))=pick f (pas.take j) ((st.parties.zipIdx 1).take j)++if f x=true then [a]else []:=by
    rw[List.take_add_one,List.take_add_one,ha,hx]
    exact pick_snoc ll
   refine⟨rfl,_,rfl,a,t.c_Party,dp,_,_,rfl,g,T.cl_Party,T.no_Party_block,rfl,rfl,_,rfl,?_⟩
   have ed:(!decide (bv=V.non))=f x:=by
    rcases hbv with ⟨hb,c,rfl,_⟩ | ⟨hb,rfl⟩
    ·exact(decide_eq_true hb).symm
    ·exact(decide_eq_false hb).symm
   rw[ed]
   refine ite2 (fun c1=>?_) (fun c1=>?_)
   ·refine⟨_,rfl,_,upd_same,?_,?_⟩
    ·rw[List.length_map]
     refine small1000 (Nat.le_trans (pick_len ..) ?_)
     rw[List.length_take,Paired.length I.ps,List.length_zipIdx]
     omega
    ·rw[upd_upd,et,if_pos c1,List.map_append]
     rfl
   ·rw[et,if_neg c1,List.append_nil]
  ·rintro H2 e
   have e2:(st.parties.zipIdx 1).take (pas.map V.ref).length =st.parties.zipIdx 1:=by rw[List.length_map,Paired.length I.ps,List.take_length]
   rw[e2,List.length_map,List.take_length]at e
   have s2:Same H H2:=by rw[e];exact s1 _
   have hl2:H2 D=some (.lst ((pick f pas (st.parties.zipIdx 1)).map V.ref)):=by rw[e];exact upd_same
   have hP2:Paired (PtyAt t H2 st.room) (pick f pas (st.parties.zipIdx 1)) ((st.parties.zipIdx 1).filter f):=Paired.mapP (pick_paired (p:=f) I.ps) fun _ _ q=>q.same s2
   have hlen:(pick f pas (st.parties.zipIdx 1)).length ≤1000:=by
    refine Nat.le_trans (pick_len ..) ?_
    rw[Paired.length I.ps,List.length_zipIdx]
    omega
   clear e
   generalize pick f pas (st.parties.zipIdx 1)=qs at hl2 hP2 hlen ⊢
   have I2:=I.same s2
   refine⟨_,rfl,D,rfl,⟨_,SqL.of hl2⟩,fun D2 hD2=>?_⟩
   have s3: ∀o,Same H2 (upd H2 D2 o):=fun o=>Same.new hD2
   let f2:Vbhoae.Party×Nat→Bool:=fun x=>decide (m<x.1.to_+st.clearing)
   refine lc_list (K:=K) (a:=D) (xs:=qs.map V.ref) (fun j H3=>H3=upd H2 D2 (.lst ((pick f2 (qs.take j) (((st.parties.zipIdx 1).filter f).take j)).map V.ref))) rfl (fun j H3 _ e=>by rw[e];exact(s3 _).seq (SqL.of hl2)) ?_ ?_
   ·rintro j y H3 hj e
    rw[List.getElem?_map]at hj
    obtain⟨a,ha,rfl⟩:=Option.map_eq_some_iff.mp hj
    obtain⟨x,hx,dp,bv,hp,hbv⟩:=paired_at hP2 ha
    subst e
    have g:=s3 (.lst ((pick f2 (qs.take j) (((st.parties.zipIdx 1).filter f).take j)).map V.ref)) _ _ hp
    have I3:=I2.same (s3 (.lst ((pick f2 (qs.take j) (((st.parties.zipIdx 1).filter f).take j)).map V.ref)))
    have ll:(qs.take j).length =(((st.parties.zipIdx 1).filter f).take j).length :=by rw[List.length_take,List.length_take,Paired.length hP2]
    have et:pick f2 (qs.take (j+1)) (((st.parties.zipIdx 1).filter f).take (j+1))=pick f2 (qs.take j) (((st.parties.zipIdx 1).filter f).take j)++if f2 x=true then [a]else []:=by
     rw[List.take_add_one,List.take_add_one,ha,hx]
     exact pick_snoc ll
    refine⟨rfl,_,rfl,h,dx,_,rfl,I3.self,rfl,_,rfl,a,t.c_Party,dp,_,_,rfl,g,T.cl_Party,T.no_Party_time_to,rfl,?_⟩
    refine⟨h,st,x.1.to_,rfl,⟨dx,lb,lr,lp,bas,ras,pas,I3⟩,?_⟩
    refine⟨_,rfl,_,_,rfl,rfl,_,rfl,?_⟩
    have ed:decide (((m:Nat):Int)<((x.1.to_+st.clearing:Nat):Int))=f2 x:=decide_eq_decide.mpr (by omega)
    rw[ed]
    refine ite2 (fun c1=>?_) (fun c1=>?_)
    ·refine⟨_,rfl,_,upd_same,?_,?_⟩
     ·rw[List.length_map]
      refine small1000 (Nat.le_trans (pick_len ..) ?_)
      rw[List.length_take]
      omega
     ·rw[upd_upd,et,if_pos c1,List.map_append]
      rfl
    ·rw[et,if_neg c1,List.append_nil]
   ·rintro H3 e
    have e3:((st.parties.zipIdx 1).filter f).take (qs.map V.ref).length =(st.parties.zipIdx 1).filter f:=by rw[List.length_map,Paired.length hP2,List.take_length]
    rw[e3,List.length_map,List.take_length]at e
    subst e
    have eu:((st.parties.zipIdx 1).filter f).filter f2=My.users st m:=by
     rw[List.filter_filter]
     unfold My.users
     congr 1
     funext x
     unfold My.usesNow
     rw[Bool.eq_iff_iff]
     simp only[f,f2,Bool.and_eq_true,decide_eq_true_eq]
     exact And.comm
    have:=Paired.mapP (pick_paired (p:=f2) hP2) fun _ _ q=>PtyAt.same (s3 (.lst ((pick f2 qs ((st.parties.zipIdx 1).filter f)).map V.ref))) q
    rw[eu]at this
    exact k _ D2 _ (s2.trans (s3 _)) (Same.none s2 hD2) upd_same this
theorem foldl_users{r:Vbhoae.Room}{s:Vbhoae.State}{m:Nat}: ∀(l:List Vbhoae.Party) (k t:Nat),((l.filter fun p=>decide (p.stage=1∨p.stage=2)).map fun p=>(⟨p.block,p.from_,p.to_+s.clearing⟩:Vbhoae.Use)).foldl (fun t u=>if m<u.to_ then t ||| My.mask r u.block else t) t=
  ((l.zipIdx k).filter (My.usesNow s m)).foldl (fun t x=>t ||| My.mask r x.1.block) t
 | [],_,_=>rfl
 | p::l,k,t=>by
  rw[List.zipIdx_cons,List.filter_cons,List.filter_cons]
  by_cases h1:p.stage=1∨p.stage=2
  ·rw[if_pos (decide_eq_true h1),List.map_cons,List.foldl_cons]
   by_cases h2:m<p.to_+s.clearing
   ·rw[if_pos (show My.usesNow s m (p,k)=true from decide_eq_true ⟨h1,h2⟩),List.foldl_cons,foldl_users l (k+1)]
    simp only[h2,if_true]
   ·rw[if_neg (show ¬My.usesNow s m (p,k)=true from fun q=>h2 (of_decide_eq_true q).2),foldl_users l (k+1)]
    simp only[h2,if_false]
  ·rw[if_neg (fun q=>h1 (of_decide_eq_true q)),if_neg (show ¬My.usesNow s m (p,k)=true from fun q=>h1 (of_decide_eq_true q).1),foldl_users l (k+1)]
theorem used_users(s:Vbhoae.State)(m:Nat):My.usedMask s.room (Vbhoae.used s) m=(My.users s m).foldl (fun t x=>t ||| My.mask s.room x.1.block) 0:=foldl_users s.parties 1 0
theorem user_has{s:Vbhoae.State}{m:Nat}{x:Vbhoae.Party×Nat}(h:x∈My.users s m):HasB x.1:=(of_decide_eq_true (List.mem_filter.mp h).2).1
inductive spUsed(t:Adr)(vs:List V)(H:Hp)(Q:VK)(_:XK):Prop
 | mk (h:Addr) (s:Vbhoae.State) (m:Nat) (_:vs=[.ref h,nV m]) (_:HouseAt t H h s) (_: ∀H',Same H H'→Q (nV (My.usedMask s.room (Vbhoae.used s) m)) H')
theorem ok_used_from(T:Txt K mg t):FnOk P w K mg base CX0 3 t.f_House_used_from t.d_House_used_from ["self","minute"] (spUsed t):=by
 refine T.fu_House_used_from.ok sc_House_used_from (fun vs H Q E h=>?_) (fun cdv A outer s H vs Q E hr h=>?_)
 ·obtain⟨h,s,m,rfl,_⟩:=h
  rfl
 ·obtain⟨h,st,m,rfl,⟨dx,lb,lr,lp,bas,ras,pas,I⟩,k⟩:=h
  have h60:=I.few
  have nd:=sc_House_used_from.nd
  refine⟨_,pss_cons (ps_set (i:=2) nd rfl (Or.inl rfl) pe_int)
   (pss_cons (ps_for PassesOwn.never rfl (pi_list (pe_meth (pv 0) T.cl_House T.me_House_users_from (ok_users_from T) hr T.bi_House_users_from .nil pass0 (pa_cons (pv 1) pa_nil))) (pg_name (i:=3) nd rfl (Or.inl rfl))
    (pss_one (ps_set (i:=2) nd rfl (Or.inl rfl) (pe_op op_or (pv 2) (pe_fld (pe_fld (pv 3) rfl) rfl)))))
   (pss_one (ps_ret (pv 2)))),?_⟩
  refine⟨_,rfl,h,dx,_,rfl,I.self,rfl,_,rfl,?_⟩
  refine⟨h,st,m,rfl,⟨dx,lb,lr,lp,bas,ras,pas,I⟩,fun H1 l as s1 n1 hl hP=>?_⟩
  refine⟨l,rfl,⟨_,SqL.of hl⟩,?_⟩
  refine for_list (K:=K) (a:=l) (xs:=as.map V.ref) (fun i σ H'=> ∃v3:Option V,σ=[some (.ref h),some (nV m),some (nV (((My.users st m).take i).foldl (fun t x=>t ||| My.mask st.room x.1.block) 0)),v3]∧H'=H1)
   ⟨none,rfl,rfl⟩ (fun i σ H' _ ⟨_,_,e⟩=>by rw[e];exact SqL.of hl) ?_ ?_
  ·rintro i y σ H' hi ⟨v3,rfl,rfl⟩
   rw[List.getElem?_map]at hi
   obtain⟨a,ha,rfl⟩:=Option.map_eq_some_iff.mp hi
   obtain⟨x,hx,dp,bv,h1,h2⟩:=paired_at hP ha
   have hb:=user_has (List.mem_of_getElem? hx)
   rcases h2 with ⟨_,c,rfl,db,hc⟩ | ⟨q,_⟩
   ·refine⟨_,rfl,_,rfl,a,t.c_Party,dp,_,_,rfl,h1,T.cl_Party,T.no_Party_block,rfl,c,t.c_Block,db,_,_,rfl,hc,T.cl_Block,T.no_Block_tables,rfl,_,_,rfl,rfl,?_⟩
    refine⟨some (.ref a),?_,rfl⟩
    generalize hT:((My.users st m).take i).foldl (fun t x=>t ||| My.mask st.room x.1.block) 0=T0
    have eo:Builtin.bitOr ((T0:Nat):Int) ((My.mask st.room x.1.block:Nat):Int)=((((My.users st m).take (i+1)).foldl (fun t x=>t ||| My.mask st.room x.1.block) 0:Nat):Int):=by
     rw[List.take_add_one,hx,List.foldl_append,hT,Bits.bitOr_pp (by omega) (by omega)]
     rfl
    show [some (V.ref h),some (nV m),some (V.int (Builtin.bitOr ((T0:Nat):Int) ((My.mask st.room x.1.block:Nat):Int))),some (V.ref a)]=_
    rw[eo]
   ·exact absurd hb q
  ·rintro σ H' ⟨v3,rfl,rfl⟩
   have e:(My.users st m).take (as.map V.ref).length =My.users st m:=by
    rw[List.length_map,Paired.length hP,List.take_length]
   rw[e,←used_users]
   exact⟨_,rfl,k _ s1⟩
inductive spUnused(t:Adr)(K:PySem.W.Frag)(vs:List V)(H:Hp)(Q:VK)(_:XK):Prop
 | mk (h:Addr) (s:Vbhoae.State) (n m:Nat) (_:vs=[.ref h,nV n,nV m]) (_:HouseAt t H h s) (_:(Vbhoae.blocks s.room).length ≤1000) (_:1≤n) (_: ∀(H':Hp) (l:Addr) (as:List Addr),Same H H'→H l=none→H' l=some (.lst (as.map V.ref))→Blks t H' s.room as (My.openBlocks s n m)→Q (.ref l) H')
theorem ok_unused_tight_blocks(T:Txt K mg t):FnOk P w K mg base CX0 4 t.f_House_unused_tight_blocks t.d_House_unused_tight_blocks ["self","size","minute"] (spUnused t K):=by
 refine T.fu_House_unused_tight_blocks.ok sc_House_unused_tight_blocks (fun vs H Q E h=>?_) (fun cdv A outer s H vs Q E hr h=>?_)
 ·obtain⟨h,s,n,m,rfl,_⟩:=h
  rfl
 ·obtain⟨h,st,n,m,rfl,⟨dx,lb,lr,lp,bas,ras,pas,I⟩,hbl,hn,k⟩:=h
  have nd:=sc_House_unused_tight_blocks.nd
  refine⟨_,pss_cons (ps_set (i:=3) nd rfl (Or.inr rfl) (pe_meth (pv 0) T.cl_House T.me_House_used_from (ok_used_from T) hr T.bi_House_used_from .nil pass0 (pa_cons (pv 2) pa_nil)))
   (pss_one (ps_ret (pe_lc (own:=[("block",4)]) rfl nd (pi_list (pe_call (ok_tight_blocks T) (hr.mono (by omega)) rfl T.mg_tight_blocks T.fu_tight_blocks.kp T.bi_tight_blocks .nil pass0 (pa_cons (pe_fld (pv 0) rfl) (pa_cons (pv 1) pa_nil))))
    (show BlkOk n_House_unused_tight_blocks (defScope s_House_unused_tight_blocks) _ _ from blk_of (by decide +kernel))
    (fun _ _ _ _ _=>pg_name (i:=4) nd rfl (Or.inl rfl))
    (fun _ _ _ _ _=>pts_one (pt_not (bk_truth (pe_op op_and (bk_fld (pv 4) rfl) (pv 3)) (fun _=>rfl))))
    (fun _ _ _ _ _=>pv 4)))),?_⟩
  refine⟨_,rfl,h,dx,_,rfl,I.self,rfl,_,rfl,h,st,m,rfl,⟨dx,lb,lr,lp,bas,ras,pas,I⟩,fun H0 s0=>?_⟩
  have J:=I.same s0
  have k0: ∀(H':Hp) (l:Addr) (as:List Addr),Same H0 H'→H0 l=none→H' l=some (.lst (as.map V.ref))→Blks t H' st.room as (My.openBlocks st n m)→Q (.ref l) H':=fun H' l as q1 q2 q3 q4=>k H' l as (s0.trans q1) (Same.none s0 q2) q3 q4
  refine⟨_,rfl,h,t.c_House,dx,_,_,rfl,J.self,T.cl_House,T.no_House_blocks,rfl,_,rfl,?_⟩
  have lbl:bas.length=(Vbhoae.blocks st.room).length :=Paired.length J.bs
  refine⟨lb,n,st.room,bas,Vbhoae.blocks st.room,rfl,SqL.of J.lb,J.bs,fun b hb=>My.mem_blocks hb,hn,by omega,fun l1 hl1=>?_⟩
  have s1:Same H0 (upd H0 l1 (.lst ((pick (Vbhoae.tight st.room n) bas (Vbhoae.blocks st.room)).map V.ref))):=Same.new hl1
  have hP:Blks t (upd H0 l1 (.lst ((pick (Vbhoae.tight st.room n) bas (Vbhoae.blocks st.room)).map V.ref))) st.room (pick (Vbhoae.tight st.room n) bas (Vbhoae.blocks st.room)) (Vbhoae.choices st.room n):=Blks.same s1 (pick_paired (R:=fun a b=>BlkAt t H0 a st.room b) (p:=Vbhoae.tight st.room n) J.bs)
  have hlen:=pick_len (p:=Vbhoae.tight st.room n) bas (Vbhoae.blocks st.room)
  have hL:upd H0 l1 (.lst ((pick (Vbhoae.tight st.room n) bas (Vbhoae.blocks st.room)).map V.ref)) l1=some (.lst ((pick (Vbhoae.tight st.room n) bas (Vbhoae.blocks st.room)).map V.ref)):=upd_same
  generalize upd H0 l1 (.lst ((pick (Vbhoae.tight st.room n) bas (Vbhoae.blocks st.room)).map V.ref))=H1 at s1 hP hL ⊢
  generalize pick (Vbhoae.tight st.room n) bas (Vbhoae.blocks st.room)=ps at hP hL hlen ⊢
  refine⟨l1,rfl,⟨_,SqL.of hL⟩,fun D hD=>?_⟩
  have s2: ∀o,Same H1 (upd H1 D o):=fun o=>Same.new hD
  generalize hu:My.usedMask st.room (Vbhoae.used st) m=us
  let f:Vbhoae.Block→Bool:=fun b=>decide (My.mask st.room b &&& us=0)
  refine lc_list (K:=K) (a:=l1) (xs:=ps.map V.ref) (fun j H2=>H2=upd H1 D (.lst ((pick f (ps.take j) ((Vbhoae.choices st.room n).take j)).map V.ref))) rfl (fun j H2 _ e=>by rw[e];exact(s2 _).seq (SqL.of hL)) ?_ ?_
  ·rintro j x H2 hj e
   rw[List.getElem?_map]at hj
   obtain⟨a,ha,rfl⟩:=Option.map_eq_some_iff.mp hj
   obtain⟨b,hb,db,hba⟩:=paired_at hP ha
   subst e
   have g:=s2 (.lst ((pick f (ps.take j) ((Vbhoae.choices st.room n).take j)).map V.ref)) _ _ hba
   have ll:(ps.take j).length =((Vbhoae.choices st.room n).take j).length :=by rw[List.length_take,List.length_take,Paired.length hP]
   have et:pick f (ps.take (j+1)) ((Vbhoae.choices st.room n).take (j+1))=pick f (ps.take j) ((Vbhoae.choices st.room n).take j)++if f b=true then [a]else []:=by
    rw[List.take_add_one,List.take_add_one,ha,hb]
    exact pick_snoc ll
   refine⟨rfl,_,rfl,a,t.c_Block,db,_,_,rfl,g,T.cl_Block,T.no_Block_tables,rfl,_,rfl,_,_,rfl,rfl,_,rfl,?_⟩
   rw[and_nat]
   by_cases h0:My.mask st.room b &&& us=0
   ·have eb:(((My.mask st.room b &&& us:Nat):Int) != 0)=false:=by rw[h0];rfl
    rw[eb]
    refine iteT ⟨_,rfl,_,upd_same,?_,?_⟩
    ·rw[List.length_map]
     refine small1000 (Nat.le_trans (pick_len ..) ?_)
     rw[List.length_take]
     omega
    ·rw[upd_upd,et,if_pos (decide_eq_true h0),List.map_append]
     rfl
   ·have eb:(((My.mask st.room b &&& us:Nat):Int) != 0)=true:=bne_iff_ne.mpr (by omega)
    rw[eb]
    refine iteF ?_
    rw[et,if_neg (fun q=>h0 (of_decide_eq_true q)),List.append_nil]
  ·rintro H2 e
   have e2:(Vbhoae.choices st.room n).take (ps.map V.ref).length =Vbhoae.choices st.room n:=by rw[List.length_map,Paired.length hP,List.take_length]
   rw[e2,List.length_map,List.take_length]at e
   subst e
   refine k0 _ D _ (s1.trans (s2 _)) ?_ upd_same ?_
   ·cases e:H0 D with
    | none=>rfl
    | some o=>rw[s1 _ _ e]at hD;cases hD
   ·have:=Blks.same (s2 (.lst ((pick f ps (Vbhoae.choices st.room n)).map V.ref))) (pick_paired (R:=fun a b=>BlkAt t H1 a st.room b) (p:=f) hP)
    unfold My.openBlocks
    rw[hu]
    exact this
inductive WantNew(t:Adr)(H0 H:Hp)(a:Addr)(w:My.Wn):Prop
 | mk (dx c) (_:H0 a=none) (_:H0 c=none) (_:H a=some (.ins t.c_Want dx (wantF w.st w.en c))) (_:H c=some (.lst (w.ch.map nV)))
inductive spWantOf(t:Adr)(vs:List V)(H:Hp)(Q:VK)(_:XK):Prop
 | mk (h a:Addr) (s:Vbhoae.State) (x:Vbhoae.Party×Nat) (_:vs=[.ref h,.ref a]) (_:HouseAt t H h s) (_:PtyAt t H s.room a x) (_:(Vbhoae.blocks s.room).length ≤1000) (_:1≤x.1.size) (_: ∀(H':Hp) (b:Addr),Same H H'→WantNew t H H' b (My.wantOf s x.1)→Q (.ref b) H')
theorem max_nat(a b:Nat):(if ((b:Nat):Int)>((a:Nat):Int)then((b:Nat):Int)else((a:Nat):Int))=((max a b:Nat):Int):=by
 split<;>omega
theorem ok_want_of(T:Txt K mg t):FnOk P w K mg base CX0 5 t.f_House_want_of t.d_House_want_of ["self","party"] (spWantOf t):=by
 refine T.fu_House_want_of.ok sc_House_want_of (fun vs H Q E h=>?_) (fun cdv A outer s H vs Q E hr h=>?_)
 ·obtain⟨h,a,s,x,rfl,_⟩:=h
  rfl
 ·obtain⟨h,a,st,⟨p,no⟩,rfl,⟨dx,lb,lr,lp,bas,ras,pas,I⟩,⟨dp,bv,hp,hbv⟩,hbl,hn,k⟩:=h
  have nd:=sc_House_want_of.nd
  refine⟨_,pss_cons (ps_set (i:=2) nd rfl (Or.inl rfl) (pe_callB (call_max2 rfl) rfl T.bn_max PyProof.Rows.boot_max (pa_cons (pe_fld (pv 1) rfl) (pa_cons (pe_fld (pv 0) rfl) pa_nil))))
   (pss_cons (ps_setLc (i:=3) (own:=[("block",4)]) rfl nd rfl rfl (sw_true rfl rfl rfl rfl)
     (pi_list (pe_meth (pv 0) T.cl_House T.me_House_unused_tight_blocks (ok_unused_tight_blocks T) hr T.bi_House_unused_tight_blocks .nil pass0 (pa_cons (pe_fld (pv 1) rfl) (pa_cons (pv 2) pa_nil))))
     (show BlkOk n_House_want_of (defScope s_House_want_of) _ _ from blk_of (by decide +kernel))
     (fun _ _ _ _ _=>pg_name (i:=4) nd rfl (Or.inl rfl)) (fun _ _ _ _ _=>pts_nil) (fun _ _ _ _ _=>bk_fld (pv 4) rfl))
   (pss_one (ps_ret (pe_make T.mk_Want (ok_Want_init T) (hr.mono (by omega)) rfl T.mg_Want T.bi_Want_init .nil pass0
    (pa_cons (pv 2) (pa_cons (pe_meth (pv 0) T.cl_House T.me_House_end_of_use (ok_end_of_use T) (hr.mono (by omega)) T.bi_House_end_of_use .nil pass0 (pa_cons (pe_fld (pv 1) rfl) pa_nil)) (pa_cons (pv 3) pa_nil))))))),?_⟩
  refine⟨_,rfl,a,t.c_Party,dp,_,_,rfl,hp,T.cl_Party,T.no_Party_time_from,rfl,_,rfl,h,t.c_House,dx,_,_,rfl,I.self,T.cl_House,T.no_House_now,rfl,_,_,rfl,?_⟩
  rw[max_nat]
  refine⟨_,rfl,h,dx,_,rfl,I.self,rfl,_,rfl,a,t.c_Party,dp,_,_,rfl,hp,T.cl_Party,T.no_Party_size,rfl,_,rfl,?_⟩
  refine⟨h,st,p.size,max p.from_ st.now,rfl,⟨dx,lb,lr,lp,bas,ras,pas,I⟩,hbl,hn,fun H1 l as s1 nl hl hB=>?_⟩
  have llen:as.length≤1000:=by
   rw[Paired.length hB]
   unfold My.openBlocks Vbhoae.choices
   exact Nat.le_trans (List.length_filter_le ..) (Nat.le_trans (List.length_filter_le ..) hbl)
  refine⟨l,rfl,⟨_,SqL.of hl⟩,fun D hD=>?_⟩
  have s2: ∀o,Same H1 (upd H1 D o):=fun o=>Same.new hD
  refine lc_list (K:=K) (a:=l) (xs:=as.map V.ref) (fun j H2=>H2=upd H1 D (.lst ((((My.openBlocks st p.size (max p.from_ st.now)).take j).map (My.mask st.room)).map nV))) rfl (fun j H2 _ e=>by rw[e];exact(s2 _).seq (SqL.of hl)) ?_ ?_
  ·rintro j x H2 hj e
   rw[List.getElem?_map]at hj
   obtain⟨c,hc,rfl⟩:=Option.map_eq_some_iff.mp hj
   obtain⟨b,hb,db,hba⟩:=paired_at hB hc
   subst e
   have g:=s2 (.lst ((((My.openBlocks st p.size (max p.from_ st.now)).take j).map (My.mask st.room)).map nV)) _ _ hba
   refine⟨rfl,_,rfl,c,t.c_Block,db,_,_,rfl,g,T.cl_Block,T.no_Block_tables,rfl,_,upd_same,?_,?_⟩
   ·rw[List.length_map,List.length_map,List.length_take,←Paired.length hB]
    exact small1000 (by omega)
   ·rw[upd_upd,List.take_add_one,hb,List.map_append,List.map_append]
    rfl
  ·rintro H2 e
   rw[List.length_map,Paired.length hB,List.take_length]at e
   have s3:Same H1 H2:=by rw[e];exact s2 _
   have hD2:H2 D=some (.lst (((My.openBlocks st p.size (max p.from_ st.now)).map (My.mask st.room)).map nV)):=by rw[e];exact upd_same
   have s4:=s1.trans s3
   have I2:=I.same s4
   refine⟨_,rfl,_,rfl,h,dx,_,rfl,I2.self,rfl,_,rfl,a,t.c_Party,dp,_,_,rfl,s4 _ _ hp,T.cl_Party,T.no_Party_time_to,rfl,?_⟩
   refine⟨h,st,p.to_,rfl,⟨dx,lb,lr,lp,bas,ras,pas,I2⟩,?_⟩
   refine⟨_,rfl,?_⟩
   intro x dy nx ny nxy
   refine⟨x,dy,_,rfl,rfl,upd_same,fun H3 hx kp=>⟨rfl,?_⟩⟩
   have s7:Same H2 H3:=Same.made nx ny kp
   exact k H3 x (s4.trans s7) ⟨dy,D,Same.none s4 nx,Same.none s1 hD,hx,s7 _ _ hD2⟩
inductive spWantsOf(t:Adr)(K:PySem.W.Frag)(vs:List V)(H:Hp)(Q:VK)(_:XK):Prop
 | mk (h l:Addr) (s:Vbhoae.State) (as:List Addr) (xs:List (Vbhoae.Party×Nat)) (_:vs=[.ref h,.ref l]) (_:HouseAt t H h s) (_:SqL K H l (as.map V.ref)) (_:Paired (PtyAt t H s.room) as xs) (_:(Vbhoae.blocks s.room).length ≤1000) (_:(∀x∈xs,1≤x.1.size)) (_:xs.length≤1000) (_: ∀(H':Hp) (l':Addr),Same H H'→H l'=none→WantsAt t K H' l' (xs.map fun x=>My.wantOf s x.1)→Q (.ref l') H')
theorem ok_wants_of(T:Txt K mg t):FnOk P w K mg base CX0 6 t.f_House_wants_of t.d_House_wants_of ["self","parties"] (spWantsOf t K):=by
 refine T.fu_House_wants_of.ok sc_House_wants_of (fun vs H Q E h=>?_) (fun cdv A outer s H vs Q E hr h=>?_)
 ·obtain⟨h,l,s,as,xs,rfl,_⟩:=h
  rfl
 ·obtain⟨h,l,st,as,xs,rfl,⟨dx,lb,lr,lp,bas,ras,pas,I⟩,hS,hP,hbl,hsz,hlen,k⟩:=h
  have nd:=sc_House_wants_of.nd
  refine⟨_,pss_one (ps_ret (pe_lc (own:=[("party",2)]) rfl nd (pi_list (pv 1)) (show BlkOk n_House_wants_of (defScope s_House_wants_of) _ _ from blk_of (by decide +kernel))
   (fun _ _ _ _ _=>pg_name (i:=2) nd rfl (Or.inl rfl)) (fun _ _ _ _ _=>pts_nil)
   (fun _ _ _ _ _=>pe_meth (pv 0) T.cl_House T.me_House_want_of (ok_want_of T) hr T.bi_House_want_of .nil pass0 (pa_cons (pv 2) pa_nil)))),?_⟩
  refine⟨_,rfl,l,rfl,⟨_,hS⟩,fun D hD=>?_⟩
  refine lc_list (K:=K) (a:=l) (xs:=as.map V.ref) (fun j H2=>Same H H2∧ ∃bs:List Addr,H2 D=some (.lst (bs.map V.ref))∧Paired (WantOff t D H2) bs ((xs.take j).map fun x=>My.wantOf st x.1))
   ⟨Same.new hD,[],upd_same,.nil⟩ (fun j H2 _ e=>e.1.seq hS) ?_ ?_
  ·rintro j y H2 hj ⟨s2,bs,hb,pb⟩
   rw[List.getElem?_map]at hj
   obtain⟨a,ha,rfl⟩:=Option.map_eq_some_iff.mp hj
   obtain⟨x,hx,hpa⟩:=paired_at hP ha
   have I2:=I.same s2
   refine⟨rfl,_,rfl,h,dx,_,rfl,I2.self,rfl,_,rfl,?_⟩
   refine⟨h,a,st,x,rfl,⟨dx,lb,lr,lp,bas,ras,pas,I2⟩,hpa.same s2,hbl,hsz x (List.mem_of_getElem? hx),fun H3 b s3 wb=>?_⟩
   have bl:bs.length≤1000:=by
    rw[Paired.length pb,List.length_map,List.length_take]
    omega
   have hb3:=s3 _ _ hb
   refine⟨_,hb3,by rw[List.length_map];exact small1000 bl,fun c o e=>?_,bs++[b],by rw[upd_same,List.map_append];rfl,?_⟩
   ·rw[upd_ne (ne_of_none e hD)]
    exact s3 _ _ (s2 _ _ e)
   ·rw[List.take_add_one,hx,List.map_append]
    obtain⟨dw,c,n1,n2,w1,w2⟩:=wb
    have nd2:b≠D:=fun e=>by rw[e,hb]at n1;cases n1
    have nc:c≠D:=fun e=>by rw[e,hb]at n2;cases n2
    exact paired_snoc (R:=WantOff t D _) (WantOff.upd ⟨dw,c,nd2,nc,w1,w2⟩) (Paired.mapP pb fun _ _ q=>(q.same s3).upd)
  ·rintro H2 ⟨s2,bs,hb,pb⟩
   have e:xs.take (as.map V.ref).length =xs:=by rw[List.length_map,Paired.length hP,List.take_length]
   rw[e]at pb
   exact k H2 D s2 hD ⟨bs,SqL.of hb,Paired.mapP pb fun _ _ q=>q.want⟩
def atStage(s:Vbhoae.State)(g:Nat):List (Vbhoae.Party×Nat):=(s.parties.zipIdx 1).filter fun x=>decide (x.1.stage=g)
inductive spStage(t:Adr)(vs:List V)(H:Hp)(Q:VK)(_:XK):Prop
 | mk (h:Addr) (s:Vbhoae.State) (g:Nat) (_:vs=[.ref h,nV g]) (_:HouseAt t H h s) (_: ∀(H':Hp) (l:Addr) (as:List Addr),Same H H'→H l=none→H' l=some (.lst (as.map V.ref))→Paired (PtyAt t H' s.room) as (atStage s g)→Q (.ref l) H')
abbrev Own(pas:List Addr)(a:Addr)(x:Vbhoae.Party×Nat):Prop:=pas[x.2-1]? =some a
theorem own_all{H:Hp}{s:Vbhoae.State}{h dx lb lr lp:Addr}{bas ras pas:List Addr}(I:HouseIs t H s h dx lb lr lp bas ras pas):Paired (Own pas) pas (s.parties.zipIdx 1):=paired_of (Paired.length I.ps) fun i a x ha hx=>by
 obtain⟨_,e⟩:=zip_at hx
 show pas[x.2-1]? =some a
 rw[e]
 exact ha
inductive spStageO(t:Adr)(vs:List V)(H:Hp)(Q:VK)(_:XK):Prop
 | mk (h:Addr) (s:Vbhoae.State) (g:Nat) (dx lb lr lp:Addr) (bas ras pas:List Addr) (_:vs=[.ref h,nV g]) (_:HouseIs t H s h dx lb lr lp bas ras pas) (_: ∀(H':Hp) (l:Addr) (as:List Addr),Same H H'→H l=none→H' l=some (.lst (as.map V.ref))→Paired (PtyAt t H' s.room) as (atStage s g)→Paired (Own pas) as (atStage s g)→Q (.ref l) H')
theorem ok_at_stageO(T:Txt K mg t):FnOk P w K mg base CX0 1 t.f_House_at_stage t.d_House_at_stage ["self","stage"] (spStageO t):=by
 refine T.fu_House_at_stage.ok sc_House_at_stage (fun vs H Q E h=>?_) (fun cdv A outer s H vs Q E hr h=>?_)
 ·obtain⟨h,s,g,dx,lb,lr,lp,bas,ras,pas,rfl,_⟩:=h
  rfl
 ·obtain⟨h,st,g,dx,lb,lr,lp,bas,ras,pas,rfl,I,k⟩:=h
  have nd:=sc_House_at_stage.nd
  have h60:=I.few
  refine⟨_,pss_one (ps_ret (pe_lc (own:=[("party",2)]) rfl nd (pi_list (pe_fld (pv 0) rfl)) (show BlkOk n_House_at_stage (defScope s_House_at_stage) _ _ from blk_of (by decide +kernel))
   (fun _ _ _ _ _=>pg_name (i:=2) nd rfl (Or.inl rfl))
   (fun _ _ _ _ _=>pts_one (pt_cmpR op_eq (bk_fld (pv 2) rfl) (pv 1) (by rfl)))
   (fun _ _ _ _ _=>pv 2))),?_⟩
  refine⟨_,rfl,h,t.c_House,dx,_,_,rfl,I.self,T.cl_House,T.no_House_parties,rfl,lp,rfl,⟨_,SqL.of I.lp⟩,fun D hD=>?_⟩
  have s2: ∀o,Same H (upd H D o):=fun o=>Same.new hD
  let f:Vbhoae.Party×Nat→Bool:=fun x=>decide (x.1.stage=g)
  refine lc_list (K:=K) (a:=lp) (xs:=pas.map V.ref) (fun j H2=>H2=upd H D (.lst ((pick f (pas.take j) ((st.parties.zipIdx 1).take j)).map V.ref))) rfl (fun j H2 _ e=>by rw[e];exact(s2 _).seq (SqL.of I.lp)) ?_ ?_
  ·rintro j y H2 hj e
   rw[List.getElem?_map]at hj
   obtain⟨a,ha,rfl⟩:=Option.map_eq_some_iff.mp hj
   obtain⟨x,hx,dp,bv,hp,_⟩:=paired_at I.ps ha
   subst e
   have g2:=s2 (.lst ((pick f (pas.take j) ((st.parties.zipIdx 1).take j)).map V.ref)) _ _ hp
   have ll:(pas.take j).length =((st.parties.zipIdx 1).take j).length :=by rw[List.length_take,List.length_take,Paired.length I.ps]
   have et:pick f (pas.take (j+1)) ((st.parties.zipIdx 1).take (j+1))=pick f (pas.take j) ((st.parties.zipIdx 1).take j)++if f x=true then [a]else []:=by
    rw[List.take_add_one,List.take_add_one,ha,hx]
    exact pick_snoc ll
   refine⟨rfl,_,rfl,a,t.c_Party,dp,_,_,rfl,g2,T.cl_Party,T.no_Party_stage,rfl,_,rfl,rfl,_,rfl,?_⟩
   have ed:decide (nV x.1.stage=nV g)=f x:=decide_eq_decide.mpr ⟨fun e=>by have:=V.int.inj e;omega,fun e=>by rw[e]⟩
   rw[ed]
   refine ite2 (fun c1=>?_) (fun c1=>?_)
   ·refine⟨_,rfl,_,upd_same,?_,?_⟩
    ·rw[List.length_map]
     refine small1000 (Nat.le_trans (pick_len ..) ?_)
     rw[List.length_take,Paired.length I.ps,List.length_zipIdx]
     omega
    ·rw[upd_upd,et,if_pos c1,List.map_append]
     rfl
   ·rw[et,if_neg c1,List.append_nil]
  ·rintro H2 e
   have e2:(st.parties.zipIdx 1).take (pas.map V.ref).length =st.parties.zipIdx 1:=by rw[List.length_map,Paired.length I.ps,List.take_length]
   rw[e2,List.length_map,List.take_length]at e
   subst e
   exact k _ D _ (s2 _) hD upd_same (Paired.mapP (pick_paired (p:=f) I.ps) fun _ _ q=>q.same (s2 _)) (pick_paired (p:=f) (own_all I))
theorem ok_at_stage(T:Txt K mg t):FnOk P w K mg base CX0 1 t.f_House_at_stage t.d_House_at_stage ["self","stage"] (spStage t):=by
 refine(ok_at_stageO T).imp fun vs H Q E h=>?_
 obtain⟨h,s,g,e,⟨dx,lb,lr,lp,bas,ras,pas,I⟩,k⟩:=h
 exact⟨h,s,g,dx,lb,lr,lp,bas,ras,pas,e,I,fun H' l as q1 q2 q3 q4 _=>k H' l as q1 q2 q3 q4⟩
inductive spPromO(t:Adr)(vs:List V)(H:Hp)(Q:VK)(_:XK):Prop
 | mk (h:Addr) (s:Vbhoae.State) (dx lb lr lp:Addr) (bas ras pas:List Addr) (_:vs=[.ref h]) (_:HouseIs t H s h dx lb lr lp bas ras pas) (_: ∀(H':Hp) (l:Addr) (as:List Addr),Same H H'→H l=none→H' l=some (.lst (as.map V.ref))→Paired (PtyAt t H' s.room) as (My.prom s)→Paired (Own pas) as (My.prom s)→Q (.ref l) H')
inductive spProm(t:Adr)(vs:List V)(H:Hp)(Q:VK)(_:XK):Prop
 | mk (h:Addr) (s:Vbhoae.State) (_:vs=[.ref h]) (_:HouseAt t H h s) (_: ∀(H':Hp) (l:Addr) (as:List Addr),Same H H'→H l=none→H' l=some (.lst (as.map V.ref))→Paired (PtyAt t H' s.room) as (My.prom s)→Q (.ref l) H')
theorem ok_promisedO(T:Txt K mg t):FnOk P w K mg base CX0 2 t.f_House_promised t.d_House_promised ["self"] (spPromO t):=by
 refine T.fu_House_promised.ok sc_House_promised (fun vs H Q E h=>?_) (fun cdv A outer s H vs Q E hr h=>?_)
 ·obtain⟨h,s,dx,lb,lr,lp,bas,ras,pas,rfl,_⟩:=h
  rfl
 ·obtain⟨h,st,dx,lb,lr,lp,bas,ras,pas,rfl,I,k⟩:=h
  obtain⟨k1,hk1⟩:=T.ct_PROMISED
  refine⟨_,pss_one (ps_ret (pe_meth (pv 0) T.cl_House T.me_House_at_stage (ok_at_stageO T) hr T.bi_House_at_stage .nil pass0 (pa_cons (pe_glob (v:= .int 0) rfl hk1 ⟨_,rfl⟩) pa_nil))),?_⟩
  refine⟨_,rfl,h,dx,_,rfl,I.self,rfl,?_⟩
  exact⟨h,st,0,dx,lb,lr,lp,bas,ras,pas,rfl,I,k⟩
theorem ok_promised(T:Txt K mg t):FnOk P w K mg base CX0 2 t.f_House_promised t.d_House_promised ["self"] (spProm t):=by
 refine(ok_promisedO T).imp fun vs H Q E h=>?_
 obtain⟨h,s,e,⟨dx,lb,lr,lp,bas,ras,pas,I⟩,k⟩:=h
 exact⟨h,s,dx,lb,lr,lp,bas,ras,pas,e,I,fun H' l as q1 q2 q3 q4 _=>k H' l as q1 q2 q3 q4⟩
inductive spFromOf(t:Adr)(vs:List V)(H:Hp)(Q:VK)(_:XK):Prop
 | mk (a:Addr) (r:Vbhoae.Room) (x:Vbhoae.Party×Nat) (_:vs=[.ref a]) (_:PtyAt t H r a x) (_:Q (nV x.1.from_) H)
theorem ok_time_from_of(T:Txt K mg t):FnOk P w K mg base CX0 1 t.f_time_from_of t.d_time_from_of ["party"] (spFromOf t):=by
 refine T.fu_time_from_of.ok sc_time_from_of (fun vs H Q E h=>?_) (fun cdv A outer s H vs Q E hr h=>?_)
 ·obtain⟨a,r,x,rfl,_⟩:=h
  rfl
 ·obtain⟨a,r,x,rfl,⟨dx,bv,hb,_⟩,k⟩:=h
  refine⟨_,pss_one (ps_ret (pe_fld (pv 0) rfl)),?_⟩
  exact⟨_,rfl,a,t.c_Party,dx,_,_,rfl,hb,T.cl_Party,T.no_Party_time_from,rfl,k⟩
def byTime(s:Vbhoae.State):List (Vbhoae.Party×Nat):=isort (fun x=>x.1.from_) (My.prom s)
theorem byTime_eq(s:Vbhoae.State):Vbhoae.promised s=(byTime s).map fun x=>(x.2,x.1):=My.promised_sorted (isort_sorted _) fun c=>isort_key _
inductive spByTime(t:Adr)(vs:List V)(H:Hp)(Q:VK)(_:XK):Prop
 | mk (h:Addr) (s:Vbhoae.State) (_:vs=[.ref h]) (_:HouseAt t H h s) (_: ∀(H':Hp) (l:Addr) (as:List Addr),Same H H'→H l=none→H' l=some (.lst (as.map V.ref))→Paired (PtyAt t H' s.room) as (byTime s)→Q (.ref l) H')
theorem ok_promised_by_time(T:Txt K mg t):FnOk P w K mg base CX0 4 t.f_House_promised_by_time t.d_House_promised_by_time ["self"] (spByTime t):=by
 refine T.fu_House_promised_by_time.ok sc_House_promised_by_time (fun vs H Q E h=>?_) (fun cdv A outer s H vs Q E hr h=>?_)
 ·obtain⟨h,s,rfl,_⟩:=h
  rfl
 ·obtain⟨h,st,rfl,⟨dx,lb,lr,lp,bas,ras,pas,I⟩,k⟩:=h
  refine⟨_,pss_one (ps_ret (pe_sortK (ok_time_from_of T) (hr.mono (by omega)) T.bi_time_from_of rfl T.bn_sorted rfl T.mg_time_from_of
   (pa_cons (pe_meth0 (pv 0) T.cl_House T.me_House_promised (ok_promised T) (hr.mono (by omega)) T.bi_House_promised .nil pass0) pa_nil))),?_⟩
  refine⟨_,rfl,h,dx,_,rfl,I.self,rfl,?_⟩
  refine⟨h,st,rfl,⟨dx,lb,lr,lp,bas,ras,pas,I⟩,fun H1 l as s1 n1 hl hP=>?_⟩
  refine⟨l,as,(My.prom st).map fun x=>((x.1.from_:Nat):Int),rfl,SqL.of hl,by rw[List.length_map];exact(Paired.length hP).symm,?_,?_⟩
  ·intro i b z hb hz
   obtain⟨x,hx,xa⟩:=paired_at hP hb
   rw[List.getElem?_map,hx]at hz
   cases hz
   exact⟨b,st.room,x,rfl,xa,rfl,rfl⟩
  ·intro D cs hD so
   obtain⟨zs,ez,eb,es⟩:=sortedA_isort (key:=fun x:Vbhoae.Party×Nat=>x.1.from_) (Paired.length hP) so
   have s3:Same H1 (upd H1 D (.lst (cs.map V.ref))):=Same.new hD
   have hP3:Paired (PtyAt t (upd H1 D (.lst (cs.map V.ref))) st.room) (zs.map Prod.fst) (zs.map Prod.snd):=paired_zip fun z hz=>by
    rw[ez]at hz
    exact PtyAt.same s3 (paired_mem (R:=PtyAt t H1 st.room) hP (isort_mem hz))
   rw[←eb,es]at hP3
   exact k _ D cs (s1.trans s3) (Same.none s1 hD) upd_same hP3
theorem open_len{s:Vbhoae.State}(h:(Vbhoae.blocks s.room).length ≤1000)(n m:Nat):(My.openBlocks s n m).length ≤1000:=by
 unfold My.openBlocks Vbhoae.choices
 exact Nat.le_trans (List.length_filter_le ..) (Nat.le_trans (List.length_filter_le ..) h)
theorem want_len{s:Vbhoae.State}(h:(Vbhoae.blocks s.room).length ≤1000){xs:List (Vbhoae.Party×Nat)}: ∀v∈xs.map (fun x=>My.wantOf s x.1),v.ch.length≤1000:=by
 intro v hv
 obtain⟨x,_,rfl⟩:=List.mem_map.mp hv
 show(List.map _ _).length ≤1000
 rw[List.length_map]
 exact open_len h _ _
theorem places_short: ∀{n i:Nat} {pl:List Nat},n≤5→(My.placeLists n)[i]? =some pl→pl.length≤5
 | 0,i,pl,_,h=>(show ∀x∈My.placeLists 0,x.length≤5 by decide +kernel) pl (List.mem_of_getElem? h)
 | 1,i,pl,_,h=>(show ∀x∈My.placeLists 1,x.length≤5 by decide +kernel) pl (List.mem_of_getElem? h)
 | 2,i,pl,_,h=>(show ∀x∈My.placeLists 2,x.length≤5 by decide +kernel) pl (List.mem_of_getElem? h)
 | 3,i,pl,_,h=>(show ∀x∈My.placeLists 3,x.length≤5 by decide +kernel) pl (List.mem_of_getElem? h)
 | 4,i,pl,_,h=>(show ∀x∈My.placeLists 4,x.length≤5 by decide +kernel) pl (List.mem_of_getElem? h)
 | 5,i,pl,_,h=>(show ∀x∈My.placeLists 5,x.length≤5 by decide +kernel) pl (List.mem_of_getElem? h)
 | _+6,_,_,h,_=>absurd h (by omega)
inductive spKeep(t:Adr)(K:PySem.W.Frag)(vs:List V)(H:Hp)(Q:VK)(_:XK):Prop
 | mk (h l:Addr) (s:Vbhoae.State) (as:List Addr) (xs:List (Vbhoae.Party×Nat)) (_:vs=[.ref h,.ref l]) (_:HouseAt t H h s) (_:SqL K H l (as.map V.ref)) (_:Paired (PtyAt t H s.room) as xs) (_:(Vbhoae.blocks s.room).length ≤1000) (_:(∀x∈xs,1≤x.1.size)) (_:xs.length≤6) (_: ∀(H':Hp) (b:Bool),Same H H'→(b=true↔My.Giv (xs.map fun x=>My.wantOf s x.1))→Q (.bl b) H')
theorem ok_can_keep(T:Txt K mg t):FnOk P w K mg base CX0 12 t.f_House_can_keep t.d_House_can_keep ["self","promised"] (spKeep t K):=by
 refine T.fu_House_can_keep.ok sc_House_can_keep (fun vs H Q E h=>?_) (fun cdv A outer s H vs Q E hr h=>?_)
 ·obtain⟨h,l,s,as,xs,rfl,_⟩:=h
  rfl
 ·obtain⟨h,l,st,as,xs,rfl,⟨dx,lb,lr,lp,bas,ras,pas,I⟩,hS,hP,hbl,hsz,hlen,k⟩:=h
  refine⟨_,pss_one (ps_ret (pe_call (ok_can_all_be_given T 6) (hr.mono (by omega)) rfl T.mg_can_all_be_given T.fu_can_all_be_given.kp T.bi_can_all_be_given .nil pass0
   (pa_cons (pe_meth (pv 0) T.cl_House T.me_House_wants_of (ok_wants_of T) (hr.mono (by omega)) T.bi_House_wants_of .nil pass0 (pa_cons (pv 1) pa_nil)) pa_nil))),?_⟩
  refine⟨_,rfl,h,dx,_,rfl,I.self,rfl,_,rfl,?_⟩
  refine⟨h,l,st,as,xs,rfl,⟨dx,lb,lr,lp,bas,ras,pas,I⟩,hS,hP,hbl,hsz,by omega,fun H1 l1 s1 n1 w1=>?_⟩
  refine⟨l1,_,rfl,w1,want_len hbl,by rw[List.length_map];exact hlen,by omega,fun H2 b s2 hb=>?_⟩
  exact k H2 b (s1.trans s2) hb
inductive spTrouble(t:Adr)(vs:List V)(H:Hp)(Q:VK)(_:XK):Prop
 | mk (h:Addr) (s:Vbhoae.State) (_:vs=[.ref h]) (_:HouseAt t H h s) (_:(My.prom s).length ≤5) (_:(Vbhoae.blocks s.room).length ≤1000) (_:(∀x∈My.prom s,1≤x.1.size)) (_: ∀(H':Hp) (l:Addr) (as:List Addr) (i:Nat) (places:List Nat),Same H H'→H l=none→H' l=some (.lst (as.map V.ref))→Paired (fun a p=> ∃x,(My.prom s)[p]? =some x∧PtyAt t H' s.room a x) as places→(My.placeLists (My.prom s).length)[i]? =some places→My.Giv (My.leaveOut ((My.prom s).map fun x=>My.wantOf s x.1) places)→(∀j pl,j<i→(My.placeLists (My.prom s).length)[j]? =some pl→ ¬My.Giv (My.leaveOut ((My.prom s).map fun x=>My.wantOf s x.1) pl))→Q (.ref l) H')
inductive spTroubleO(t:Adr)(vs:List V)(H:Hp)(Q:VK)(_:XK):Prop
 | mk (h:Addr) (s:Vbhoae.State) (dx lb lr lp:Addr) (bas ras pas:List Addr) (_:vs=[.ref h]) (_:HouseIs t H s h dx lb lr lp bas ras pas) (_:(My.prom s).length ≤5) (_:(Vbhoae.blocks s.room).length ≤1000) (_:(∀x∈My.prom s,1≤x.1.size)) (_: ∀(H':Hp) (l:Addr) (as:List Addr) (i:Nat) (places:List Nat),Same H H'→H l=none→H' l=some (.lst (as.map V.ref))→Paired (fun a p=> ∃x,(My.prom s)[p]? =some x∧PtyAt t H' s.room a x∧Own pas a x) as places→(My.placeLists (My.prom s).length)[i]? =some places→My.Giv (My.leaveOut ((My.prom s).map fun x=>My.wantOf s x.1) places)→(∀j pl,j<i→(My.placeLists (My.prom s).length)[j]? =some pl→ ¬My.Giv (My.leaveOut ((My.prom s).map fun x=>My.wantOf s x.1) pl))→Q (.ref l) H')
theorem ok_in_troubleO(T:Txt K mg t):FnOk P w K mg base CX0 12 t.f_House_in_trouble t.d_House_in_trouble ["self"] (spTroubleO t):=by
 refine T.fu_House_in_trouble.ok sc_House_in_trouble (fun vs H Q E h=>?_) (fun cdv A outer s H vs Q E hr h=>?_)
 ·obtain⟨h,s,dx,lb,lr,lp,bas,ras,pas,rfl,_⟩:=h
  rfl
 ·obtain⟨h,st,dx,lb,lr,lp,bas,ras,pas,rfl,I,h5,hbl,hsz,k⟩:=h
  have nd:=sc_House_in_trouble.nd
  refine⟨_,pss_cons (ps_set (i:=1) nd rfl (Or.inr rfl) (pe_meth0 (pv 0) T.cl_House T.me_House_promised (ok_promisedO T) (hr.mono (by omega)) T.bi_House_promised .nil pass0))
   (pss_one (ps_ret (pe_lc (own:=[("place",2)]) rfl nd (pi_list (pe_call (ok_fewest_left_out T) (hr.mono (by omega)) rfl T.mg_fewest_left_out T.fu_fewest_left_out.kp T.bi_fewest_left_out .nil pass0
     (pa_cons (pe_meth (pv 0) T.cl_House T.me_House_wants_of (ok_wants_of T) (hr.mono (by omega)) T.bi_House_wants_of .nil pass0 (pa_cons (pv 1) pa_nil)) pa_nil)))
    (show BlkOk n_House_in_trouble (defScope s_House_in_trouble) _ _ from blk_of (by decide +kernel))
    (fun _ _ _ _ _=>pg_name (i:=2) nd rfl (Or.inl rfl)) (fun _ _ _ _ _=>pts_nil) (fun _ _ _ _ _=>pe_ix bk_ix (pv 1) (pv 2) (fun _ _=>rfl))))),?_⟩
  refine⟨_,rfl,h,dx,_,rfl,I.self,rfl,?_⟩
  refine⟨h,st,dx,lb,lr,lp,bas,ras,pas,rfl,I,fun H1 l1 as s1 n1 hl1 hp1 hown=>?_⟩
  have I1:=I.same s1
  refine⟨_,rfl,h,dx,_,rfl,I1.self,rfl,_,rfl,?_⟩
  refine⟨h,l1,st,as,My.prom st,rfl,⟨dx,lb,lr,lp,bas,ras,pas,I1⟩,SqL.of hl1,hp1,hbl,hsz,by omega,fun H2 l2 s2 n2 w2=>?_⟩
  refine⟨l2,_,rfl,w2,want_len hbl,by rw[List.length_map];exact h5,fun H3 a i places s3 e1 e2 e3 hN=>?_⟩
  rw[List.length_map]at e1 e3
  have s13:=s2.trans s3
  have hl3:=s13 _ _ hl1
  have hin:=My.placeLists_sub (List.mem_of_getElem? e1)
  refine⟨a,rfl,⟨_,SqL.of hN⟩,fun D hD=>?_⟩
  have s4: ∀o,Same H3 (upd H3 D o):=fun o=>Same.new hD
  have get: ∀p∈places,∃b x,as[p]? =some b∧(My.prom st)[p]? =some x∧PtyAt t H1 st.room b x∧Own pas b x:=fun p hp=>by
   have hlt:p<as.length:=by
    rw[Paired.length hp1]
    exact hin p hp
   obtain⟨x,hx,q⟩:=paired_at hp1 (List.getElem?_eq_getElem hlt)
   obtain⟨y,hy,q2⟩:=paired_at hown (List.getElem?_eq_getElem hlt)
   rw[hx]at hy
   cases hy
   exact⟨_,x,List.getElem?_eq_getElem hlt,hx,q,q2⟩
  have pl5:places.length≤1000:=by
   have:=places_short h5 e1
   omega
  refine lc_list (K:=K) (a:=a) (xs:=places.map nV) (fun j H4=>Same H3 H4∧ ∃bs:List Addr,H4 D=some (.lst (bs.map V.ref))∧Paired (fun b p=> ∃x,(My.prom st)[p]? =some x∧PtyAt t H1 st.room b x∧Own pas b x) bs (places.take j))
   ⟨s4 _,[],upd_same,.nil⟩ (fun j H4 _ e=>e.1.seq (SqL.of hN)) ?_ ?_
  ·rintro j y H4 hj ⟨s5,bs,hb,pb⟩
   rw[List.getElem?_map]at hj
   obtain⟨p,hp,rfl⟩:=Option.map_eq_some_iff.mp hj
   obtain⟨b,x,g1,g2,g3⟩:=get p (List.mem_of_getElem? hp)
   refine⟨rfl,_,rfl,_,rfl,l1,_,_,_,rfl,rfl,SqL.of (s5 _ _ hl3),atI_nat (by rw[List.getElem?_map,g1];rfl),_,hb,?_,?_,bs++[b],by rw[upd_same,List.map_append];rfl,?_⟩
   ·rw[List.length_map,Paired.length pb,List.length_take]
    exact small1000 (by omega)
   ·intro c o e
    rw[upd_ne (ne_of_none e hD)]
    exact s5 _ _ e
   ·rw[List.take_add_one,hp]
    exact paired_snoc (R:=fun b p=> ∃x,(My.prom st)[p]? =some x∧PtyAt t H1 st.room b x∧Own pas b x) ⟨x,g2,g3⟩ pb
  ·rintro H4 ⟨s5,bs,hb,pb⟩
   rw[List.length_map,List.take_length]at pb
   have s14:=s13.trans s5
   refine k H4 D bs i places (s1.trans s14) (Same.none s1 (Same.none s13 hD)) hb (Paired.mapP pb fun b p q=>?_) e1 e2 e3
   obtain⟨x,q1,q2,q3⟩:=q
   exact⟨x,q1,q2.same s14,q3⟩
theorem ok_in_trouble(T:Txt K mg t):FnOk P w K mg base CX0 12 t.f_House_in_trouble t.d_House_in_trouble ["self"] (spTrouble t):=by
 refine(ok_in_troubleO T).imp fun vs H Q E h=>?_
 obtain⟨h,s,e,⟨dx,lb,lr,lp,bas,ras,pas,I⟩,h1,h2,h3,k⟩:=h
 exact⟨h,s,dx,lb,lr,lp,bas,ras,pas,e,I,h1,h2,h3,fun H' l as i places q1 q2 q3 q4 q5 q6 q7=>k H' l as i places q1 q2 q3 (Paired.mapP q4 fun _ _ ⟨x,z1,z2,_⟩=>⟨x,z1,z2⟩) q5 q6 q7⟩
theorem isort_bySeats(r:Vbhoae.Room)(l:List Vbhoae.Block):isort (Vbhoae.seats r) l=Vbhoae.bySeats r l:=
 My.stable_unique (Vbhoae.seats r) (isort_sorted l) (My.bySeats_sorted l) fun c=>by rw[isort_key,My.bySeats_key]
theorem find_at{α:Type}{p:α→Bool}: ∀{l:List α} {i:Nat} {b:α},l[i]? =some b→p b=true→(∀j c,j<i→l[j]? =some c→ ¬p c=true)→l.find? p=some b
 | [],i,b,h,_,_=>by cases i<;>cases h
 | x::l,0,b,h,hb,_=>by
  cases h
  exact List.find?_cons_of_pos hb
 | x::l,i+1,b,h,hb,hn=>by
  rw[List.find?_cons_of_neg (hn 0 x (Nat.succ_pos _) rfl)]
  exact find_at (i:=i) h hb fun j c hj hc=>hn (j+1) c (Nat.succ_lt_succ hj) hc
inductive spSeatsOf(t:Adr)(vs:List V)(H:Hp)(Q:VK)(_:XK):Prop
 | mk (a:Addr) (r:Vbhoae.Room) (b:Vbhoae.Block) (_:vs=[.ref a]) (_:BlkAt t H a r b) (_:Q (nV (Vbhoae.seats r b)) H)
theorem ok_seats_of(T:Txt K mg t):FnOk P w K mg base CX0 1 t.f_seats_of t.d_seats_of ["block"] (spSeatsOf t):=by
 refine T.fu_seats_of.ok sc_seats_of (fun vs H Q E h=>?_) (fun cdv A outer s H vs Q E hr h=>?_)
 ·obtain⟨a,r,b,rfl,_⟩:=h
  rfl
 ·obtain⟨a,r,b,rfl,⟨dx,hb⟩,k⟩:=h
  refine⟨_,pss_one (ps_ret (pe_fld (pv 0) rfl)),?_⟩
  exact⟨_,rfl,a,t.c_Block,dx,_,_,rfl,hb,T.cl_Block,T.no_Block_seats,rfl,k⟩
inductive spNow(t:Adr)(K:PySem.W.Frag)(vs:List V)(H:Hp)(Q:VK)(_:XK):Prop
 | mk (h l:Addr) (s:Vbhoae.State) (n to_:Nat) (as:List Addr) (xs:List (Vbhoae.Party×Nat)) (_:vs=[.ref h,nV n,nV to_,.ref l]) (_:HouseAt t H h s) (_:SqL K H l (as.map V.ref)) (_:Paired (PtyAt t H s.room) as xs) (_:(Vbhoae.blocks s.room).length ≤1000) (_:(∀x∈xs,1≤x.1.size)) (_:xs.length≤6) (_:1≤n) (_: ∀(H':Hp) (bv:V) (P:Vbhoae.Block→Bool),Same H H'→(∀b,P b=true↔My.Giv (My.beside (xs.map fun x=>My.wantOf s x.1) s.now (to_+s.clearing) (My.mask s.room b)))→(match (Vbhoae.bySeats s.room (My.openBlocks s n s.now)).find? P with | some b=> ∃c,bv= .ref c∧BlkAt t H' c s.room b | none=>bv= .non)→Q bv H')
theorem ok_block_now(T:Txt K mg t):FnOk P w K mg base CX0 12 t.f_House_block_now t.d_House_block_now ["self","size","time_to","promised"] (spNow t K):=by
 refine T.fu_House_block_now.ok sc_House_block_now (fun vs H Q E h=>?_) (fun cdv A outer s H vs Q E hr h=>?_)
 ·obtain⟨h,l,s,n,to_,as,xs,rfl,_⟩:=h
  rfl
 ·obtain⟨h,l,st,n,to_,as,xs,rfl,⟨dx,lb,lr,lp,bas,ras,pas,I⟩,hS,hP,hbl,hsz,hlen,hn,k⟩:=h
  have nd:=sc_House_block_now.nd
  refine⟨_,pss_cons (ps_set (i:=4) nd rfl (Or.inl rfl) (pe_meth (pv 0) T.cl_House T.me_House_wants_of (ok_wants_of T) (hr.mono (by omega)) T.bi_House_wants_of .nil pass0 (pa_cons (pv 3) pa_nil)))
   (pss_cons (ps_set (i:=5) nd rfl (Or.inl rfl) (pe_meth (pv 0) T.cl_House T.me_House_end_of_use (ok_end_of_use T) (hr.mono (by omega)) T.bi_House_end_of_use .nil pass0 (pa_cons (pv 2) pa_nil)))
   (pss_cons (ps_for PassesOwn.never rfl (pi_list (pe_sortK (ok_seats_of T) (hr.mono (by omega)) T.bi_seats_of rfl T.bn_sorted rfl T.mg_seats_of
      (pa_cons (pe_meth (pv 0) T.cl_House T.me_House_unused_tight_blocks (ok_unused_tight_blocks T) (hr.mono (by omega)) T.bi_House_unused_tight_blocks .nil pass0 (pa_cons (pv 1) (pa_cons (pe_fld (pv 0) rfl) pa_nil))) pa_nil)))
     (pg_name (i:=6) nd rfl (Or.inl rfl))
    (pss_one (ps_if (pt_val (pe_call (ok_can_all_be_given T 6) (hr.mono (by omega)) rfl T.mg_can_all_be_given T.fu_can_all_be_given.kp T.bi_can_all_be_given .nil pass0
      (pa_cons (pe_call (ok_wants_beside T) (hr.mono (by omega)) rfl T.mg_wants_beside T.fu_wants_beside.kp T.bi_wants_beside .nil pass0
       (pa_cons (pv 4) (pa_cons (pe_fld (pv 0) rfl) (pa_cons (pv 5) (pa_cons (pe_fld (pv 6) rfl) pa_nil))))) pa_nil)))
     (pss_one (ps_ret (pv 6))) pss_nil)))
   (pss_one (ps_ret pe_non)))),?_⟩
  refine⟨_,rfl,h,dx,_,rfl,I.self,rfl,_,rfl,?_⟩
  refine⟨h,l,st,as,xs,rfl,⟨dx,lb,lr,lp,bas,ras,pas,I⟩,hS,hP,hbl,hsz,by omega,fun H1 l1 s1 n1 w1=>?_⟩
  have I1:=I.same s1
  refine⟨_,rfl,h,dx,_,rfl,I1.self,rfl,_,rfl,?_⟩
  refine⟨h,st,to_,rfl,⟨dx,lb,lr,lp,bas,ras,pas,I1⟩,?_⟩
  refine⟨_,rfl,h,dx,_,rfl,I1.self,rfl,_,rfl,_,rfl,h,t.c_House,dx,_,_,rfl,I1.self,T.cl_House,T.no_House_now,rfl,?_⟩
  refine⟨h,st,n,st.now,rfl,⟨dx,lb,lr,lp,bas,ras,pas,I1⟩,hbl,hn,fun H2 l2 bs s2 n2 hl2 hB=>?_⟩
  refine⟨l2,bs,(My.openBlocks st n st.now).map (fun b=>((Vbhoae.seats st.room b:Nat):Int)),rfl,SqL.of hl2,by rw[List.length_map,Paired.length hB],fun i b z hb hz=>?_,fun D cs hD so=>?_⟩
  ·obtain⟨v,hv,wa⟩:=paired_at hB hb
   rw[List.getElem?_map,hv]at hz
   cases hz
   exact⟨b,st.room,v,rfl,wa,rfl,rfl⟩
  obtain⟨zs,ez,eb,es⟩:=sortedA_isort (key:=Vbhoae.seats st.room) (Paired.length hB) so
  rw[isort_bySeats]at es
  have s3:Same H2 (upd H2 D (.lst (cs.map V.ref))):=Same.new hD
  have hP3:Paired (fun a b=>BlkAt t (upd H2 D (.lst (cs.map V.ref))) a st.room b) (zs.map Prod.fst) (zs.map Prod.snd):=paired_zip fun z hz=>by
   rw[ez]at hz
   exact BlkAt.same s3 (paired_mem (R:=fun a b=>BlkAt t H2 a st.room b) hB (isort_mem hz))
  rw[←eb,es]at hP3
  have hD3:upd H2 D (.lst (cs.map V.ref)) D=some (.lst (cs.map V.ref)):=upd_same
  generalize upd H2 D (.lst (cs.map V.ref))=H3 at s3 hP3 hD3 ⊢
  generalize hL:Vbhoae.bySeats st.room (My.openBlocks st n st.now)=L at hP3 k
  have s13:=s2.trans s3
  have s03:=s1.trans s13
  refine⟨D,rfl,⟨_,SqL.of hD3⟩,?_⟩
  let Pb:Vbhoae.Block→Bool:=fun b=> @decide (My.Giv (My.beside (xs.map fun x=>My.wantOf st x.1) st.now (to_+st.clearing) (My.mask st.room b))) (Classical.propDecidable _)
  have hPb: ∀b,Pb b=true↔My.Giv (My.beside (xs.map fun x=>My.wantOf st x.1) st.now (to_+st.clearing) (My.mask st.room b)):=fun b=> @decide_eq_true_iff _ (Classical.propDecidable _)
  refine for_list (K:=K) (a:=D) (xs:=cs.map V.ref) (fun i σ H'=> ∃v6:Option V,σ=[some (.ref h),some (nV n),some (nV to_),some (.ref l),some (.ref l1),some (nV (to_+st.clearing)),v6]∧Same H3 H'∧ ∀j b,j<i→L[j]? =some b→ ¬Pb b=true)
   ⟨none,rfl,Same.refl _,fun j b hj=>absurd hj (Nat.not_lt_zero _)⟩ (fun i σ H' _ ⟨_,_,s5,_⟩=>s5.seq (SqL.of hD3)) ?_ ?_
  ·rintro i y σ H' hi ⟨v6,rfl,s5,hno⟩
   rw[List.getElem?_map]at hi
   obtain⟨c,hc,rfl⟩:=Option.map_eq_some_iff.mp hi
   obtain⟨b,hb,hba⟩:=paired_at hP3 hc
   have I5:=I1.same (s13.trans s5)
   obtain⟨db,hb5⟩:=BlkAt.same s5 hba
   have w5:WantsAt t K H' l1 (xs.map fun x=>My.wantOf st x.1):=by
    obtain⟨was,ws1,ws2⟩:=w1
    exact⟨was,(s13.trans s5).seq ws1,Paired.mapP ws2 fun _ _ q=>q.same (s13.trans s5)⟩
   refine⟨_,rfl,_,rfl,h,t.c_House,dx,_,_,rfl,I5.self,T.cl_House,T.no_House_now,rfl,_,rfl,_,rfl,c,t.c_Block,db,_,_,rfl,hb5,T.cl_Block,T.no_Block_tables,rfl,?_⟩
   refine⟨l1,_,st.now,to_+st.clearing,My.mask st.room b,rfl,w5,want_len hbl,by rw[List.length_map];omega,fun H8 l8 s8 n8 W8=>?_⟩
   refine⟨l8,_,rfl,W8,fun v hv=>?_,?_,by omega,fun H9 g s9 hg=>?_⟩
   ·obtain⟨v',hv',rfl⟩:=List.mem_map.mp hv
    refine Nat.le_trans ?_ (want_len hbl v' hv')
    unfold My.besideOne
    split
    ·exact List.length_filter_le ..
    ·exact Nat.le_refl _
   ·unfold My.beside
    rw[List.length_map,List.length_map]
    exact hlen
   ·have sA:=s5.trans (s8.trans s9)
    refine⟨g,rfl,?_⟩
    cases g with
    | true=>
     refine iteT ⟨_,rfl,?_⟩
     refine k H9 _ Pb (s03.trans sA) hPb ?_
     rw[find_at hb ((hPb b).mpr (hg.mp rfl)) hno]
     exact⟨c,rfl,BlkAt.same sA hba⟩
    | false=>
     refine iteF ⟨_,rfl,sA,fun j b2 hj h2=>?_⟩
     rcases Nat.lt_or_ge j i with q | q
     ·exact hno j b2 q h2
     ·have:j=i:=by omega
      subst this
      rw[hb]at h2
      rw[←Option.some.inj h2]
      intro q2
      cases hg.mpr ((hPb b).mp q2)
  ·rintro σ H' ⟨v6,rfl,s5,hno⟩
   refine k H' _ Pb (s03.trans s5) hPb ?_
   have e:L.find? Pb=none:=List.find?_eq_none.mpr fun b hb=>by
    obtain⟨j,hj,e⟩:=List.getElem_of_mem hb
    refine hno j b ?_ (by rw[List.getElem?_eq_getElem hj,e])
    rw[List.length_map,Paired.length hP3]
    exact hj
   rw[e]
theorem beside_len{ws:List My.Wn}{a b c n:Nat}(h: ∀v∈ws,v.ch.length≤n): ∀v∈My.beside ws a b c,v.ch.length≤n:=fun v hv=>by
 obtain⟨v',hv',rfl⟩:=List.mem_map.mp hv
 refine Nat.le_trans ?_ (h v' hv')
 unfold My.besideOne
 split
 ·exact List.length_filter_le ..
 ·exact Nat.le_refl _
theorem beside_count(ws:List My.Wn)(a b c:Nat):(My.beside ws a b c).length =ws.length:=by
 unfold My.beside
 rw[List.length_map]
inductive spFirst(t:Adr)(K:PySem.W.Frag)(vs:List V)(H:Hp)(Q:VK)(_:XK):Prop
 | mk (a l:Addr) (v:My.Wn) (ws:List My.Wn) (_:vs=[.ref a,.ref l]) (_:WantAt t H a v) (_:WantsAt t K H l ws) (_:(∀u∈ws,u.ch.length≤1000)) (_:ws.length≤5) (_:My.Giv (v::ws)) (_: ∀(H':Hp) (i c:Nat),Same H H'→v.ch[i]? =some c→My.Giv (My.beside ws v.st v.en c)→(∀j d,j<i→v.ch[j]? =some d→ ¬My.Giv (My.beside ws v.st v.en d))→Q (nV c) H')
theorem ok_first_choice(T:Txt K mg t):FnOk P w K mg base CX0 11 t.f_first_choice t.d_first_choice ["want","rest"] (spFirst t K):=by
 refine T.fu_first_choice.ok sc_first_choice (fun vs H Q E h=>?_) (fun cdv A outer s H vs Q E hr h=>?_)
 ·obtain⟨a,l,v,ws,rfl,_⟩:=h
  rfl
 ·obtain⟨a,l,v,ws,rfl,⟨dx,c,h1,h2⟩,hW,hch,h5,hg,k⟩:=h
  have nd:=sc_first_choice.nd
  refine⟨_,pss_cons (ps_for PassesOwn.never rfl (pi_list (pe_fld (pv 0) rfl)) (pg_name (i:=2) nd rfl (Or.inl rfl))
    (pss_one (ps_if (pt_val (pe_call (ok_can_all_be_given T 5) (hr.mono (by omega)) rfl T.mg_can_all_be_given T.fu_can_all_be_given.kp T.bi_can_all_be_given .nil pass0
      (pa_cons (pe_call (ok_wants_beside T) (hr.mono (by omega)) rfl T.mg_wants_beside T.fu_wants_beside.kp T.bi_wants_beside .nil pass0
       (pa_cons (pv 1) (pa_cons (pe_fld (pv 0) rfl) (pa_cons (pe_fld (pv 0) rfl) (pa_cons (pv 2) pa_nil))))) pa_nil)))
     (pss_one (ps_ret (pv 2))) pss_nil)))
   (pss_one (ps_ret pe_non)),?_⟩
  refine⟨_,rfl,a,t.c_Want,dx,_,_,rfl,h1,T.cl_Want,T.no_Want_choices,rfl,c,rfl,⟨_,SqL.of h2⟩,?_⟩
  refine for_list (K:=K) (a:=c) (xs:=v.ch.map nV) (fun i σ H'=> ∃v2:Option V,σ=[some (.ref a),some (.ref l),v2]∧Same H H'∧ ∀j d,j<i→v.ch[j]? =some d→ ¬My.Giv (My.beside ws v.st v.en d))
   ⟨none,rfl,Same.refl _,fun j d hj=>absurd hj (Nat.not_lt_zero _)⟩ (fun i σ H' _ ⟨_,_,s5,_⟩=>s5.seq (SqL.of h2)) ?_ ?_
  ·rintro i y σ H' hi ⟨v2,rfl,s5,hno⟩
   rw[List.getElem?_map]at hi
   obtain⟨z,hz,rfl⟩:=Option.map_eq_some_iff.mp hi
   have g1:=s5 _ _ h1
   refine⟨_,rfl,_,rfl,a,t.c_Want,dx,_,_,rfl,g1,T.cl_Want,T.no_Want_start,rfl,_,rfl,a,t.c_Want,dx,_,_,rfl,g1,T.cl_Want,T.no_Want_end,rfl,_,rfl,?_⟩
   refine⟨l,ws,v.st,v.en,z,rfl,hW.same s5,hch,by omega,fun H8 l8 s8 n8 W8=>?_⟩
   refine⟨l8,_,rfl,W8,beside_len hch,by rw[beside_count];exact h5,by omega,fun H9 b s9 hb=>?_⟩
   have sA:=s5.trans (s8.trans s9)
   refine⟨b,rfl,?_⟩
   cases b with
   | true=>exact iteT ⟨_,rfl,k H9 i z sA hz (hb.mp rfl) hno⟩
   | false=>
    refine iteF ⟨_,rfl,sA,fun j x hj hx=>?_⟩
    by_cases hji:j=i
    ·subst hji
     rw[hz]at hx
     cases hx
     exact fun q=>absurd (hb.mpr q) Bool.false_ne_true
    ·exact hno j x (by omega) hx
  ·rintro σ H' ⟨v2,rfl,s5,hno⟩
   exfalso
   obtain⟨z,hz,hgz⟩:=My.giv_cons.mp hg
   obtain⟨j,hj⟩:=List.getElem?_of_mem hz
   refine absurd hgz (hno j z ?_ hj)
   rw[List.length_map]
   exact(List.getElem?_eq_some_iff.mp hj).1
inductive spTold(t:Adr)(K:PySem.W.Frag)(vs:List V)(H:Hp)(Q:VK)(_:XK):Prop
 | mk (l:Addr) (ws:List My.Wn) (_:vs=[.ref l]) (_:WantsAt t K H l ws) (_:(∀u∈ws,u.ch.length≤1000)) (_:ws.length≤6) (_:My.Giv ws) (_: ∀(H':Hp) (q:Addr) (ts:List Nat),Same H H'→H q=none→H' q=some (.lst (ts.map nV))→My.Told ws ts→ts.length=ws.length→Q (.ref q) H')
theorem ok_seating_told(T:Txt K mg t):FnOk P w K mg base CX0 12 t.f_seating_told t.d_seating_told ["wants"] (spTold t K):=by
 refine T.fu_seating_told.ok sc_seating_told (fun vs H Q E h=>?_) (fun cdv A outer s H vs Q E hr h=>?_)
 ·obtain⟨l,ws,rfl,_⟩:=h
  rfl
 ·obtain⟨l0,ws0,rfl,⟨as0,hS0,hP0⟩,hch0,h6,hg0,k⟩:=h
  have nd:=sc_seating_told.nd
  refine⟨_,pss_cons (ps_set (i:=1) nd rfl (Or.inl rfl) (pe_lst pa_nil))
   (pss_cons (ps_set (i:=2) nd rfl (Or.inl rfl) (pv 0))
   (pss_cons (ps_while PassesOwn.never (pt_truth (pv 2) (fun _=>rfl))
    (pss_cons (ps_set (i:=3) nd rfl (Or.inl rfl) (pe_ix ix_list (pv 2) pe_int (fun _ _=>rfl)))
    (pss_cons (ps_set (i:=4) nd rfl (Or.inl rfl) (pe_call (ok_first_choice T) (hr.mono (by omega)) rfl T.mg_first_choice T.fu_first_choice.kp T.bi_first_choice .nil pass0 (pa_cons (pv 3) (pa_cons (pe_slice sl_list (pv 2) (po_some pe_int) po_none) pa_nil))))
    (pss_cons (ps_expr (pe_bm PySem.F.plainAttrs_list PySem.F.slot_list_append PySem.F.type_list_append mt_append (pv 1) (pa_cons (pv 4) pa_nil)))
    (pss_one (ps_set (i:=2) nd rfl (Or.inl rfl) (pe_call (ok_wants_besideF T) (hr.mono (by omega)) rfl T.mg_wants_beside T.fu_wants_beside.kp T.bi_wants_beside .nil pass0
     (pa_cons (pe_slice sl_list (pv 2) (po_some pe_int) po_none) (pa_cons (pe_fld (pv 3) rfl) (pa_cons (pe_fld (pv 3) rfl) (pa_cons (pv 4) pa_nil)))))))))))
   (pss_one (ps_ret (pv 1))))),?_⟩
  refine⟨Nat.zero_le _,fun q hq=>?_⟩
  have s1:Same H (upd H q (.lst [])):=Same.new hq
  refine⟨_,rfl,?_⟩
  refine⟨fun m σ H'=> ∃(l:Addr) (ws:List My.Wn) (as:List Addr) (g:List Nat) (v3 v4:Option V),ws.length=m∧σ=[some (.ref l0),some (.ref q),some (.ref l),v3,v4]∧Same H H'∧H' q=some (.lst (g.map nV))∧SqL K H' l (as.map V.ref)∧(l≠q∨ ∃xs,∀H2,SqL K H2 l xs∧xs=as.map V.ref)∧
    Paired (WantF t (fun x=>x=q) H') as ws∧My.Giv ws∧(∀u∈ws,u.ch.length≤1000)∧(∀ts,My.Told ws ts→My.Told ws0 (g++ts))∧g.length+m=ws0.length,
   ⟨ws0.length,l0,ws0,as0,[],none,none,rfl,rfl,s1,upd_same,s1.seq hS0,?_,Paired.mapP hP0 fun _ _ z=>((z.none.off hq).same s1).less fun _ e=> .inl e,hg0,hch0,fun ts h=>h,by simp⟩,?_⟩
  ·rcases hS0 with (e | ⟨o,e⟩) | e
   ·exact .inl (ne_of_none e hq)
   ·exact .inl (ne_of_none e hq)
   ·exact .inr ⟨_,fun H2=>⟨.inr e,rfl⟩⟩
  rintro m σ H1 ⟨l,ws,as,g,v3,v4,hm,rfl,sH,hgq,hS,hlq,hP,hg,hch,hT,hlen⟩
  refine⟨_,rfl,_,.inl ⟨_,hS,rfl⟩,?_⟩
  cases hP with
  | nil=>
   refine iteF ⟨_,rfl,?_⟩
   have h0:=hT [] .nil
   rw[List.append_nil]at h0
   refine k H1 q g sH hq hgq h0 ?_
   rw[←hlen,←hm]
   rfl
  | @cons a0 w0 as ws r0 hP=>
   refine iteT ?_
   have hwl:ws.length+1=m:=hm
   refine⟨fun σ' H2=> ∃(l:Addr) (ws:List My.Wn) (as:List Addr) (g:List Nat) (v3 v4:Option V),ws.length=m-1∧σ'=[some (.ref l0),some (.ref q),some (.ref l),v3,v4]∧Same H H2∧H2 q=some (.lst (g.map nV))∧SqL K H2 l (as.map V.ref)∧(l≠q∨ ∃xs,∀H3,SqL K H3 l xs∧xs=as.map V.ref)∧
     Paired (WantF t (fun x=>x=q) H2) as ws∧My.Giv ws∧(∀u∈ws,u.ch.length≤1000)∧(∀ts,My.Told ws ts→My.Told ws0 (g++ts))∧g.length+(m-1)=ws0.length,
    fun σ' H2 hw=>⟨m-1,by omega,hw⟩,?_⟩
   obtain⟨dx,c,na,nc,h1,h2⟩:=id r0
   refine⟨_,rfl,l,_,_,_,rfl,rfl,hS,atI_nat (j:=0) rfl,?_⟩
   refine⟨_,rfl,_,rfl,_,rfl,l,_,rfl,hS,fun p hp=>?_⟩
   have s2:Same H1 (upd H1 p (.lst (cutV ((a0::as).map V.ref) (some 1) none))):=Same.new hp
   rw[show((a0::as).map V.ref)=V.ref a0::as.map V.ref from rfl,cut1]at s2 ⊢
   have hp2:upd H1 p (.lst (as.map V.ref)) p=some (.lst (as.map V.ref)):=upd_same
   generalize upd H1 p (.lst (as.map V.ref))=H2 at s2 hp2 ⊢
   refine⟨a0,p,w0,ws,rfl,r0.want.same s2,⟨as,SqL.of hp2,Paired.mapP hP fun _ _ z=>z.want.same s2⟩,fun u hu=>hch u (List.mem_cons_of_mem _ hu),by omega,hg,fun H3 i z s3 hz hgz hno=>?_⟩
   have s13:=s2.trans s3
   have hq3:=s13 _ _ hgq
   have g10:g.length≤1000:=by omega
   refine⟨_,rfl,.inl ⟨rfl,_,SqL.of hq3⟩,_,rfl,q,_,_,rfl,rfl,hq3,by rw[List.length_map];exact small1000 g10,?_⟩
   have hS4:SqL K (upd H3 q (.lst (g.map nV++[nV z]))) l ((a0::as).map V.ref):=by
    rcases hlq with n | ⟨xs,e⟩
    ·rcases s13.seq hS with (e | ⟨o,e⟩) | e
     ·exact .inl (.inl (by rw[upd_ne n];exact e))
     ·exact .inl (.inr ⟨o,by rw[upd_ne n];exact e⟩)
     ·exact .inr e
    ·have:=e (upd H3 q (.lst (g.map nV++[nV z])))
     rw[←this.2]
     exact this.1
   have hF: ∀{b:Addr} {u:My.Wn},WantF t (fun x=>x=q) H1 b u→WantF t (fun x=>x=q) (upd H3 q (.lst (g.map nV++[nV z]))) b u:=fun{b u} z=>(z.same s13).upd rfl
   obtain⟨dx2,c2,_,_,g1,_⟩:=hF r0
   have hq4:upd H3 q (.lst (g.map nV++[nV z])) q=some (.lst (g.map nV++[nV z])):=upd_same
   have sH4:Same H (upd H3 q (.lst (g.map nV++[nV z]))):=fun b o e=>by
    rw[upd_ne (ne_of_none e hq)]
    exact s13 _ _ (sH _ _ e)
   have hP4:Paired (WantF t (fun x=>x=q) (upd H3 q (.lst (g.map nV++[nV z])))) as ws:=Paired.mapP hP fun _ _ z=>hF z
   generalize upd H3 q (.lst (g.map nV++[nV z]))=H4 at hS4 g1 hq4 sH4 hP4 ⊢
   refine⟨_,rfl,_,rfl,l,_,rfl,hS4,fun p5 hp5=>?_⟩
   have s5:Same H4 (upd H4 p5 (.lst (cutV ((a0::as).map V.ref) (some 1) none))):=Same.new hp5
   rw[show((a0::as).map V.ref)=V.ref a0::as.map V.ref from rfl,cut1]at s5 ⊢
   have hp6:upd H4 p5 (.lst (as.map V.ref)) p5=some (.lst (as.map V.ref)):=upd_same
   generalize upd H4 p5 (.lst (as.map V.ref))=H5 at s5 hp6 ⊢
   have g5:=s5 _ _ g1
   refine⟨_,rfl,a0,t.c_Want,dx2,_,_,rfl,g5,T.cl_Want,T.no_Want_start,rfl,_,rfl,a0,t.c_Want,dx2,_,_,rfl,g5,T.cl_Want,T.no_Want_end,rfl,_,rfl,?_⟩
   refine⟨p5,ws,w0.st,w0.en,z,fun x=>x=q,rfl,⟨as,SqL.of hp6,Paired.mapP hP4 fun _ _ z=>z.same s5⟩,fun x e=>(by rw[e,s5 _ _ hq4];exact Option.some_ne_none _),fun u hu=>hch u (List.mem_cons_of_mem _ hu),by omega,fun H6 l6 s6 n6 W6=>?_⟩
   obtain⟨bs,w1,w2⟩:=W6
   refine⟨l6,My.beside ws w0.st w0.en z,bs,g++[z],_,_,by rw[beside_count];omega,rfl,sH4.trans (s5.trans s6),by rw[s6 _ _ (s5 _ _ hq4),List.map_append];rfl,w1,.inl ?_,w2,hgz,beside_len fun u hu=>hch u (List.mem_cons_of_mem _ hu),fun ts h=>?_,by rw[List.length_append];show g.length+1+(m-1)=_;omega⟩
   ·exact Ne.symm (ne_of_none (s5 _ _ hq4) n6)
   ·rw[List.append_assoc]
    exact hT _ (.cons hz hgz hno h)
inductive spWith(t:Adr)(vs:List V)(H:Hp)(Q:VK)(_:XK):Prop
 | mk (h:Addr) (s:Vbhoae.State) (b:Vbhoae.Block) (_:vs=[.ref h,nV (My.mask s.room b)]) (_:HouseAt t H h s) (_:(Vbhoae.blocks s.room).length ≤1000) (_:b∈Vbhoae.blocks s.room) (_: ∀(H':Hp) (c:Addr),Same H H'→H c≠none→BlkAt t H' c s.room b→Q (.ref c) H')
theorem ok_block_with(T:Txt K mg t):FnOk P w K mg base CX0 1 t.f_House_block_with t.d_House_block_with ["self","tables"] (spWith t):=by
 refine T.fu_House_block_with.ok sc_House_block_with (fun vs H Q E h=>?_) (fun cdv A outer s H vs Q E hr h=>?_)
 ·obtain⟨h,s,b,rfl,_⟩:=h
  rfl
 ·obtain⟨h,st,b0,rfl,⟨dx,lb,lr,lp,bas,ras,pas,I⟩,hbl,hb0,k⟩:=h
  have nd:=sc_House_block_with.nd
  refine⟨_,pss_one (ps_ret (pe_ix ix_list (pe_lc (own:=[("block",2)]) rfl nd (pi_list (pe_fld (pv 0) rfl)) (show BlkOk n_House_block_with (defScope s_House_block_with) _ _ from blk_of (by decide +kernel))
   (fun _ _ _ _ _=>pg_name (i:=2) nd rfl (Or.inl rfl))
   (fun _ _ _ _ _=>pts_one (pt_cmpR op_eq (bk_fld (pv 2) rfl) (pv 1) (by rfl)))
   (fun _ _ _ _ _=>pv 2)) pe_int (fun _ _=>rfl))),?_⟩
  refine⟨_,rfl,h,t.c_House,dx,_,_,rfl,I.self,T.cl_House,T.no_House_blocks,rfl,lb,rfl,⟨_,SqL.of I.lb⟩,fun D hD=>?_⟩
  have s2: ∀o,Same H (upd H D o):=fun o=>Same.new hD
  let f:Vbhoae.Block→Bool:=fun x=>decide (My.mask st.room x=My.mask st.room b0)
  have hB:=I.bs
  refine lc_list (K:=K) (a:=lb) (xs:=bas.map V.ref) (fun j H2=>H2=upd H D (.lst ((pick f (bas.take j) ((Vbhoae.blocks st.room).take j)).map V.ref))) rfl (fun j H2 _ e=>by rw[e];exact(s2 _).seq (SqL.of I.lb)) ?_ ?_
  ·rintro j y H2 hj e
   rw[List.getElem?_map]at hj
   obtain⟨a,ha,rfl⟩:=Option.map_eq_some_iff.mp hj
   obtain⟨x,hx,db,hp⟩:=paired_at hB ha
   subst e
   have g2:=s2 (.lst ((pick f (bas.take j) ((Vbhoae.blocks st.room).take j)).map V.ref)) _ _ hp
   have ll:(bas.take j).length =((Vbhoae.blocks st.room).take j).length :=by rw[List.length_take,List.length_take,Paired.length hB]
   have et:pick f (bas.take (j+1)) ((Vbhoae.blocks st.room).take (j+1))=pick f (bas.take j) ((Vbhoae.blocks st.room).take j)++if f x=true then [a]else []:=by
    rw[List.take_add_one,List.take_add_one,ha,hx]
    exact pick_snoc ll
   refine⟨rfl,_,rfl,a,t.c_Block,db,_,_,rfl,g2,T.cl_Block,T.no_Block_tables,rfl,_,rfl,rfl,_,rfl,?_⟩
   have ed:decide (nV (My.mask st.room x)=nV (My.mask st.room b0))=f x:=decide_eq_decide.mpr ⟨fun e=>by have:=V.int.inj e;omega,fun e=>by rw[e]⟩
   rw[ed]
   refine ite2 (fun c1=>?_) (fun c1=>?_)
   ·refine⟨_,rfl,_,upd_same,?_,?_⟩
    ·rw[List.length_map]
     refine small1000 (Nat.le_trans (pick_len ..) ?_)
     rw[List.length_take,Paired.length hB]
     omega
    ·rw[upd_upd,et,if_pos c1,List.map_append]
     rfl
   ·rw[et,if_neg c1,List.append_nil]
  ·rintro H2 e
   have e2:(Vbhoae.blocks st.room).take (bas.map V.ref).length =Vbhoae.blocks st.room:=by rw[List.length_map,Paired.length hB,List.take_length]
   rw[e2,List.length_map,List.take_length]at e
   have hP:=pick_paired (R:=fun a b=>BlkAt t H a st.room b) (p:=f) hB
   have hh:=My.blocks_with hb0
   have hl2:H2 D=some (.lst ((pick f bas (Vbhoae.blocks st.room)).map V.ref)):=by rw[e];exact upd_same
   have s3:Same H H2:=by rw[e];exact s2 _
   generalize (Vbhoae.blocks st.room).filter f=fl at hP hh
   generalize pick f bas (Vbhoae.blocks st.room)=pl at hP hl2
   cases hP with
   | nil=>cases hh
   | @cons c b1 pl fl r hP=>
    cases hh
    refine⟨D,_,_,_,rfl,rfl,SqL.of hl2,atI_nat (j:=0) rfl,?_⟩
    obtain⟨db,r⟩:=r
    exact k H2 c s3 (by rw[r];exact Option.some_ne_none _) ⟨db,s3 _ _ r⟩
inductive spBlocksTold(t:Adr)(K:PySem.W.Frag)(vs:List V)(H:Hp)(Q:VK)(_:XK):Prop
 | mk (h l:Addr) (s:Vbhoae.State) (as:List Addr) (xs:List (Vbhoae.Party×Nat)) (_:vs=[.ref h,.ref l]) (_:HouseAt t H h s) (_:SqL K H l (as.map V.ref)) (_:Paired (PtyAt t H s.room) as xs) (_:(Vbhoae.blocks s.room).length ≤1000) (_:(∀x∈xs,1≤x.1.size)) (_:xs.length≤6) (_:My.Giv (xs.map fun x=>My.wantOf s x.1)) (_:(∀ts,My.Told (xs.map fun x=>My.wantOf s x.1) ts→ ∃bs:List Vbhoae.Block,ts=bs.map (My.mask s.room)∧ ∀b∈bs,b∈Vbhoae.blocks s.room)) (_: ∀(H':Hp) (q:Addr) (cs:List Addr) (bs:List Vbhoae.Block),Same H H'→H q=none→H' q=some (.lst (cs.map V.ref))→Blks t H' s.room cs bs→My.Told (xs.map fun x=>My.wantOf s x.1) (bs.map (My.mask s.room))→(∀b∈bs,b∈Vbhoae.blocks s.room)→bs.length=xs.length→Q (.ref q) H')
theorem ok_blocks_told(T:Txt K mg t):FnOk P w K mg base CX0 13 t.f_House_blocks_told t.d_House_blocks_told ["self","parties"] (spBlocksTold t K):=by
 refine T.fu_House_blocks_told.ok sc_House_blocks_told (fun vs H Q E h=>?_) (fun cdv A outer s H vs Q E hr h=>?_)
 ·obtain⟨h,l,s,as,xs,rfl,_⟩:=h
  rfl
 ·obtain⟨h,l,st,as,xs,rfl,⟨dx,lb,lr,lp,bas,ras,pas,I⟩,hS,hP,hbl,hsz,hlen,hg,hm,k⟩:=h
  have nd:=sc_House_blocks_told.nd
  refine⟨_,pss_one (ps_ret (pe_lc (own:=[("tables",2)]) rfl nd (pi_list (pe_call (ok_seating_told T) (hr.mono (by omega)) rfl T.mg_seating_told T.fu_seating_told.kp T.bi_seating_told .nil pass0
    (pa_cons (pe_meth (pv 0) T.cl_House T.me_House_wants_of (ok_wants_of T) (hr.mono (by omega)) T.bi_House_wants_of .nil pass0 (pa_cons (pv 1) pa_nil)) pa_nil)))
   (show BlkOk n_House_blocks_told (defScope s_House_blocks_told) _ _ from blk_of (by decide +kernel))
   (fun _ _ _ _ _=>pg_name (i:=2) nd rfl (Or.inl rfl)) (fun _ _ _ _ _=>pts_nil)
   (fun _ _ _ _ _=>pe_meth (pv 0) T.cl_House T.me_House_block_with (ok_block_with T) (hr.mono (by omega)) T.bi_House_block_with .nil pass0 (pa_cons (pv 2) pa_nil)))),?_⟩
  refine⟨_,rfl,h,dx,_,rfl,I.self,rfl,_,rfl,?_⟩
  refine⟨h,l,st,as,xs,rfl,⟨dx,lb,lr,lp,bas,ras,pas,I⟩,hS,hP,hbl,hsz,by omega,fun H1 l1 s1 n1 w1=>?_⟩
  refine⟨l1,_,rfl,w1,want_len hbl,by rw[List.length_map];exact hlen,hg,fun H2 q ts s2 n2 hq hT hlt=>?_⟩
  obtain⟨bs,rfl,hbs⟩:=hm ts hT
  rw[List.length_map,List.length_map]at hlt
  have s12:=s1.trans s2
  refine⟨q,rfl,⟨_,SqL.of hq⟩,fun D hD=>?_⟩
  have hD0:H D=none:=Same.none s12 hD
  refine lc_list (K:=K) (a:=q) (xs:=(bs.map (My.mask st.room)).map nV) (fun j H3=>Same H2 H3∧ ∃cs:List Addr,H3 D=some (.lst (cs.map V.ref))∧Paired (fun c b=>BlkAt t H3 c st.room b) cs (bs.take j))
   ⟨Same.new hD,[],upd_same,.nil⟩ (fun j H3 _ e=>e.1.seq (SqL.of hq)) ?_ ?_
  ·rintro j y H3 hj ⟨s3,cs,hc,pc⟩
   rw[List.getElem?_map,List.getElem?_map]at hj
   obtain⟨z,hz,rfl⟩:=Option.map_eq_some_iff.mp hj
   obtain⟨b,hb,rfl⟩:=Option.map_eq_some_iff.mp hz
   have I3:=I.same (s12.trans s3)
   refine⟨rfl,_,rfl,h,dx,_,rfl,I3.self,rfl,_,rfl,?_⟩
   refine⟨h,st,b,rfl,⟨dx,lb,lr,lp,bas,ras,pas,I3⟩,hbl,hbs b (List.mem_of_getElem? hb),fun H4 c s4 nc hbc=>?_⟩
   refine⟨_,s4 _ _ hc,?_,?_,cs++[c],by rw[upd_same,List.map_append];rfl,?_⟩
   ·rw[List.length_map,Paired.length pc,List.length_take]
    exact small1000 (by omega)
   ·intro e o eo
    rw[upd_ne (ne_of_none eo hD)]
    exact s4 _ _ (s3 _ _ eo)
   ·rw[List.take_add_one,hb]
    have up: ∀{e:Addr} {b:Vbhoae.Block},BlkAt t H4 e st.room b→BlkAt t (upd H4 D (.lst (cs.map V.ref++[V.ref c]))) e st.room b:=fun{e b} ⟨db,z⟩=>⟨db,by
     rw[upd_ne (ne_of z (s4 _ _ hc) (by intro z;cases z))]
     exact z⟩
    exact paired_snoc (R:=fun c b=>BlkAt t _ c st.room b) (up hbc) (Paired.mapP (show Paired (fun c b=>BlkAt t H3 c st.room b) _ _ from pc) fun _ _ z=>up (BlkAt.same s4 z))
  ·rintro H3 ⟨s3,cs,hc,pc⟩
   rw[List.length_map,List.length_map,List.take_length]at pc
   exact k H3 D cs bs (s12.trans s3) hD0 hc pc hT hbs hlt
inductive spPartyOf(t:Adr)(vs:List V)(H:Hp)(Q:VK)(_:XK):Prop
 | mk (h:Addr) (s:Vbhoae.State) (i:Nat) (_:vs=[.ref h,nV (i+1)]) (_: ∃dx lb lr lp bas ras pas a,HouseIs t H s h dx lb lr lp bas ras pas∧pas[i]? =some a∧Q (.ref a) H)
theorem ok_party_of(T:Txt K mg t):FnOk P w K mg base CX0 1 t.f_House_party_of t.d_House_party_of ["self","number"] (spPartyOf t):=by
 refine T.fu_House_party_of.ok sc_House_party_of (fun vs H Q E h=>?_) (fun cdv A outer s H vs Q E hr h=>?_)
 ·obtain⟨h,s,i,rfl,_⟩:=h
  rfl
 ·obtain⟨h,st,i,rfl,dx,lb,lr,lp,bas,ras,pas,a,I,ha,k⟩:=h
  refine⟨_,pss_one (ps_ret (pe_ix ix_list (pe_fld (pv 0) rfl) (pe_op op_sub (pv 1) pe_int) (fun _ _=>rfl))),?_⟩
  refine⟨_,rfl,h,t.c_House,dx,_,_,rfl,I.self,T.cl_House,T.no_House_parties,rfl,_,rfl,_,_,rfl,rfl,lp,_,_,_,rfl,rfl,SqL.of I.lp,?_,k⟩
  have e:(((i+1:Nat):Int)-1)=((i:Nat):Int):=by omega
  show atI (pas.map V.ref) (((i+1:Nat):Int)-1)=_
  rw[e]
  exact atI_nat (by rw[List.getElem?_map,ha];rfl)
inductive spToProm(t:Adr)(vs:List V)(H:Hp)(Q:VK)(_:XK):Prop
 | mk (h:Addr) (s:Vbhoae.State) (n f m:Nat) (_:vs=[.ref h,nV n,nV f,nV m]) (_:HouseAt t H h s) (_: ∀(H':Hp) (a:Addr),Same H H'→H a=none→PtyAt t H' s.room a (My.newP n f m,s.parties.length+1)→Q (.ref a) H')
theorem ok_party_to_promise(T:Txt K mg t):FnOk P w K mg base CX0 3 t.f_House_party_to_promise t.d_House_party_to_promise ["self","size","time_from","minutes"] (spToProm t):=by
 refine T.fu_House_party_to_promise.ok sc_House_party_to_promise (fun vs H Q E h=>?_) (fun cdv A outer s H vs Q E hr h=>?_)
 ·obtain⟨h,s,n,f,m,rfl,_⟩:=h
  rfl
 ·obtain⟨h,st,n,f,m,rfl,⟨dx,lb,lr,lp,bas,ras,pas,I⟩,k⟩:=h
  obtain⟨k1,hk1⟩:=T.ct_PROMISED
  refine⟨_,pss_one (ps_ret (pe_make T.mk_Party (ok_Party_init T) (hr.mono (by omega)) rfl T.mg_Party T.bi_Party_init .nil pass0
   (pa_cons (pe_op op_add (pe_callB call_len_seq rfl T.bn_len PySem.boot_len (pa_cons (pe_fld (pv 0) rfl) pa_nil)) pe_int) (pa_cons (pv 1) (pa_cons (pv 2) (pa_cons (pe_op op_add (pv 2) (pv 3)) (pa_cons (pe_glob (v:= .int 0) rfl hk1 ⟨_,rfl⟩) (pa_cons pe_non pa_nil)))))))),?_⟩
  refine⟨_,rfl,h,t.c_House,dx,_,_,rfl,I.self,T.cl_House,T.no_House_parties,rfl,lp,_,rfl,.inl (SqL.of I.lp),_,_,rfl,rfl,_,rfl,_,rfl,_,rfl,_,rfl,_,_,rfl,rfl,?_⟩
  intro x dy nx ny nxy
  refine⟨x,dy,_,rfl,rfl,upd_same,fun H3 hx kp=>⟨rfl,?_⟩⟩
  have s7:Same H H3:=Same.made nx ny kp
  have ll:=Paired.length I.ps
  rw[List.length_zipIdx]at ll
  have e1:(((pas.map V.ref).length :Nat):Int)+1=((st.parties.length+1:Nat):Int):=by
   rw[List.length_map,ll]
   omega
  have e2:((f:Nat):Int)+((m:Nat):Int)=((f+m:Nat):Int):=by omega
  have nb: ¬HasB (My.newP n f m):=fun q=>by
   rcases q with q | q
   ·cases q
   ·cases q
  refine k H3 x s7 nx ⟨dy,.non,?_,.inr ⟨nb,rfl⟩⟩
  dsimp only at hx
  rw[e1,e2]at hx
  exact hx
inductive spUser(t:Adr)(vs:List V)(H:Hp)(Q:VK)(_:XK):Prop
 | mk (h:Addr) (s:Vbhoae.State) (p:Nat) (_:vs=[.ref h,nV p]) (_:HouseAt t H h s) (_:p≤1000) (_: ∀(H':Hp) (v:V),Same H H'→(match (My.users s s.now).find? (My.onPlace s p)with | some x=> ∃a,v= .ref a∧PtyAt t H' s.room a x | none=>v= .non)→Q v H')
theorem shl_nat(p:Nat):(1:Int)*2 ^ ((p:Nat):Int).toNat =((2 ^ p:Nat):Int):=by
 rw[Int.toNat_natCast,Int.one_mul]
 simp
theorem ok_user_of_table(T:Txt K mg t):FnOk P w K mg base CX0 3 t.f_House_user_of_table t.d_House_user_of_table ["self","place"] (spUser t):=by
 refine T.fu_House_user_of_table.ok sc_House_user_of_table (fun vs H Q E h=>?_) (fun cdv A outer s H vs Q E hr h=>?_)
 ·obtain⟨h,s,p,rfl,_⟩:=h
  rfl
 ·obtain⟨h,st,p,rfl,⟨dx,lb,lr,lp,bas,ras,pas,I⟩,hp,k⟩:=h
  have nd:=sc_House_user_of_table.nd
  refine⟨_,pss_cons (ps_for PassesOwn.never rfl (pi_list (pe_meth (pv 0) T.cl_House T.me_House_users_from (ok_users_from T) hr T.bi_House_users_from .nil pass0 (pa_cons (pe_fld (pv 0) rfl) pa_nil))) (pg_name (i:=2) nd rfl (Or.inl rfl))
    (pss_one (ps_if (pt_truth (pe_op op_and (pe_fld (pe_fld (pv 2) rfl) rfl) (pe_op op_shl pe_int (pv 1))) (fun _=>rfl)) (pss_one (ps_ret (pv 2))) pss_nil)))
   (pss_one (ps_ret pe_non)),?_⟩
  refine⟨_,rfl,h,dx,_,rfl,I.self,rfl,_,rfl,h,t.c_House,dx,_,_,rfl,I.self,T.cl_House,T.no_House_now,rfl,?_⟩
  refine⟨h,st,st.now,rfl,⟨dx,lb,lr,lp,bas,ras,pas,I⟩,fun H1 l as s1 n1 hl hP=>?_⟩
  refine⟨l,rfl,⟨_,SqL.of hl⟩,?_⟩
  refine for_list (K:=K) (a:=l) (xs:=as.map V.ref) (fun i σ H'=> ∃v2:Option V,σ=[some (.ref h),some (nV p),v2]∧H'=H1∧ ∀j x,j<i→(My.users st st.now)[j]? =some x→ ¬My.onPlace st p x=true)
   ⟨none,rfl,rfl,fun j x hj=>absurd hj (Nat.not_lt_zero _)⟩ (fun i σ H' _ ⟨_,_,e,_⟩=>by rw[e];exact SqL.of hl) ?_ ?_
  ·rintro i y σ H' hi ⟨v2,rfl,rfl,hno⟩
   rw[List.getElem?_map]at hi
   obtain⟨a,ha,rfl⟩:=Option.map_eq_some_iff.mp hi
   obtain⟨x,hx,dp,bv,h1,h2⟩:=paired_at hP ha
   have hb:=user_has (List.mem_of_getElem? hx)
   rcases h2 with ⟨_,c,rfl,db,hc⟩ | ⟨q,_⟩
   ·refine⟨_,rfl,a,t.c_Party,dp,_,_,rfl,h1,T.cl_Party,T.no_Party_block,rfl,c,t.c_Block,db,_,_,rfl,hc,T.cl_Block,T.no_Block_tables,rfl,_,rfl,_,_,rfl,rfl,⟨by omega,by omega,by decide⟩,_,_,rfl,rfl,_,rfl,?_⟩
    show if ((Builtin.bitAnd ((My.mask st.room x.1.block:Nat):Int) ((1:Int)*2 ^ ((p:Nat):Int).toNat)) != 0)=true then _ else _
    rw[shl_nat,and_nat]
    by_cases h0:My.mask st.room x.1.block &&& 2 ^ p=0
    ·have eb:(((My.mask st.room x.1.block &&& 2 ^ p:Nat):Int) != 0)=false:=by rw[h0];rfl
     rw[eb]
     refine iteF ⟨_,rfl,rfl,fun j z hj hz=>?_⟩
     by_cases hji:j=i
     ·subst hji
      rw[hx]at hz
      cases hz
      exact fun q=>of_decide_eq_true q h0
     ·exact hno j z (by omega) hz
    ·have eb:(((My.mask st.room x.1.block &&& 2 ^ p:Nat):Int) != 0)=true:=bne_iff_ne.mpr (by omega)
     rw[eb]
     refine iteT ⟨_,rfl,k _ _ s1 ?_⟩
     rw[My.first_at hx (decide_eq_true h0) hno]
     exact⟨a,rfl,dp,_,h1,.inl ⟨hb,c,rfl,db,hc⟩⟩
   ·exact absurd hb q
  ·rintro σ H' ⟨v2,rfl,rfl,hno⟩
   refine k _ _ s1 ?_
   have e:(My.users st st.now).find? (My.onPlace st p)=none:=List.find?_eq_none.mpr fun x hx=>by
    obtain⟨j,hj,e⟩:=List.getElem_of_mem hx
    refine hno j x ?_ (by rw[List.getElem?_eq_getElem hj,e])
    rw[List.length_map,Paired.length hP]
    exact hj
   rw[e]
theorem parts_len(s:Vbhoae.State)(m:Nat):(My.users s m).length +(My.prom s).length ≤s.parties.length:=by
 have key: ∀(l:List (Vbhoae.Party×Nat)),(l.filter (My.usesNow s m)).length +(l.filter fun x=>decide (x.1.stage=0)).length ≤l.length:=by
  intro l
  induction l with
  | nil=>exact Nat.le_refl _
  | cons x l ih=>
   rw[List.filter_cons,List.filter_cons,List.length_cons]
   by_cases h1:My.usesNow s m x=true
   ·have h2: ¬(decide (x.1.stage=0)=true):=fun q=>by
     have a:=(of_decide_eq_true h1).1
     have b:=of_decide_eq_true q
     omega
    rw[if_pos h1,if_neg h2,List.length_cons]
    omega
   ·rw[if_neg h1]
    split
    ·rw[List.length_cons]
     omega
    ·omega
 have:=key (s.parties.zipIdx 1)
 rw[List.length_zipIdx]at this
 exact this
def isMinute(s:Vbhoae.State)(x:Nat):Prop:=x=s.now∨ ∃y∈My.users s s.now++My.prom s,x=y.1.to_+s.clearing
inductive spMinutes(t:Adr)(vs:List V)(H:Hp)(Q:VK)(_:XK):Prop
 | mk (h:Addr) (s:Vbhoae.State) (_:vs=[.ref h]) (_:HouseAt t H h s) (_: ∀(H':Hp) (q:Addr) (ms:List Nat),Same H H'→H q=none→H' q=some (.lst (ms.map nV))→ms.Pairwise (· ≤ ·)→(∀x,x∈ms↔isMinute s x)→Q (.ref q) H')
theorem nat_list: ∀{ms:List Int},(∀x∈ms,0≤x)→ms.map V.int=(ms.map Int.toNat).map nV
 | [],_=>rfl
 | x::ms,h=>by
  have h0:=h x (List.mem_cons_self ..)
  rw[List.map_cons,List.map_cons,List.map_cons,nat_list fun y hy=>h y (List.mem_cons_of_mem _ hy)]
  show V.int x::_=V.int ((x.toNat:Nat):Int)::_
  rw[Int.toNat_of_nonneg h0]
theorem ok_minutes_to_try(T:Txt K mg t):FnOk P w K mg base CX0 3 t.f_House_minutes_to_try t.d_House_minutes_to_try ["self"] (spMinutes t):=by
 refine T.fu_House_minutes_to_try.ok sc_House_minutes_to_try (fun vs H Q E h=>?_) (fun cdv A outer s H vs Q E hr h=>?_)
 ·obtain⟨h,s,rfl,_⟩:=h
  rfl
 ·obtain⟨h,st,rfl,⟨dx,lb,lr,lp,bas,ras,pas,I⟩,k⟩:=h
  have nd:=sc_House_minutes_to_try.nd
  refine⟨_,pss_cons (ps_setLc (i:=1) (own:=[("party",2)]) rfl nd rfl rfl (sw_true rfl rfl rfl rfl)
    (pi_list (pe_op op_cat (pe_meth (pv 0) T.cl_House T.me_House_users_from (ok_users_from T) hr T.bi_House_users_from .nil pass0 (pa_cons (pe_fld (pv 0) rfl) pa_nil))
     (pe_meth0 (pv 0) T.cl_House T.me_House_promised (ok_promised T) hr T.bi_House_promised .nil pass0)))
    (show BlkOk n_House_minutes_to_try (defScope s_House_minutes_to_try) _ _ from blk_of (by decide +kernel))
    (fun _ _ _ _ _=>pg_name (i:=2) nd rfl (Or.inl rfl)) (fun _ _ _ _ _=>pts_nil)
    (fun _ _ _ _ _=>pe_meth (pv 0) T.cl_House T.me_House_end_of_use (ok_end_of_use T) (hr.mono (by omega)) T.bi_House_end_of_use .nil pass0 (pa_cons (bk_fld (pv 2) rfl) pa_nil)))
   (pss_one (ps_ret (pe_callB (call_sortS rfl) rfl T.bn_sorted boot_sorted (pa_cons (pe_callTy (call_setL rfl) rfl T.bn_set boot_set (pa_cons (pe_op op_cat (pe_lst (pa_cons (pe_fld (pv 0) rfl) pa_nil)) (pv 1)) pa_nil)) pa_nil)))),?_⟩
  refine⟨_,rfl,h,dx,_,rfl,I.self,rfl,_,rfl,h,t.c_House,dx,_,_,rfl,I.self,T.cl_House,T.no_House_now,rfl,?_⟩
  refine⟨h,st,st.now,rfl,⟨dx,lb,lr,lp,bas,ras,pas,I⟩,fun H1 l1 us s1 n1 hl1 hP1=>?_⟩
  have I1:=I.same s1
  refine⟨_,rfl,h,dx,_,rfl,I1.self,rfl,?_⟩
  refine⟨h,st,rfl,⟨dx,lb,lr,lp,bas,ras,pas,I1⟩,fun H2 l2 ps s2 n2 hl2 hP2=>?_⟩
  have hpl:=parts_len st st.now
  have h60:=I.few
  have lu:=Paired.length hP1
  have lq:=Paired.length hP2
  refine⟨l1,l2,_,_,rfl,rfl,s2 _ _ hl1,hl2,?_,fun p hp=>?_⟩
  ·rw[List.length_map,List.length_map,lu,lq,sizeLine_eq]
   omega
  have s3:Same H2 (upd H2 p (.lst (us.map V.ref++ps.map V.ref))):=Same.new hp
  rw[←List.map_append]at s3 ⊢
  have hp3:upd H2 p (.lst ((us++ps).map V.ref)) p=some (.lst ((us++ps).map V.ref)):=upd_same
  have hP3:Paired (PtyAt t (upd H2 p (.lst ((us++ps).map V.ref))) st.room) (us++ps) (My.users st st.now++My.prom st):=paired_append (Paired.mapP hP1 fun _ _ z=>z.same (s2.trans s3)) (Paired.mapP hP2 fun _ _ z=>z.same s3)
  generalize upd H2 p (.lst ((us++ps).map V.ref))=H3 at s3 hp3 hP3 ⊢
  generalize hz:My.users st st.now++My.prom st=zs at hP3
  have lz:zs.length≤60:=by
   rw[←hz,List.length_append]
   omega
  have lzs:=Paired.length hP3
  refine⟨p,rfl,⟨_,SqL.of hp3⟩,fun D hD=>?_⟩
  have s13:=s1.trans (s2.trans s3)
  have I3:=I.same s13
  have s4: ∀o,Same H3 (upd H3 D o):=fun o=>Same.new hD
  refine lc_list (K:=K) (a:=p) (xs:=(us++ps).map V.ref) (fun j H4=>H4=upd H3 D (.lst (((zs.take j).map fun x=>x.1.to_+st.clearing).map nV))) rfl (fun j H4 _ e=>by rw[e];exact(s4 _).seq (SqL.of hp3)) ?_ ?_
  ·rintro j y H4 hj e
   rw[List.getElem?_map]at hj
   obtain⟨a,ha,rfl⟩:=Option.map_eq_some_iff.mp hj
   obtain⟨x,hx,dp,bv,hpa,_⟩:=paired_at hP3 ha
   have s5:Same H3 H4:=by rw[e];exact s4 _
   have hD4:H4 D=some (.lst (((zs.take j).map fun x=>x.1.to_+st.clearing).map nV)):=by rw[e];exact upd_same
   have I4:=I3.same s5
   refine⟨rfl,_,rfl,h,dx,_,rfl,I4.self,rfl,_,rfl,a,t.c_Party,dp,_,_,rfl,s5 _ _ hpa,T.cl_Party,T.no_Party_time_to,rfl,?_⟩
   refine⟨h,st,x.1.to_,rfl,⟨dx,lb,lr,lp,bas,ras,pas,I4⟩,?_⟩
   refine⟨_,hD4,?_,?_⟩
   ·rw[List.length_map,List.length_map,List.length_take]
    exact small1000 (by omega)
   ·rw[e,upd_upd,List.take_add_one,hx,List.map_append,List.map_append]
    rfl
  ·rintro H4 e
   have e4:zs.take ((us++ps).map V.ref).length =zs:=by rw[List.length_map,lzs,List.take_length]
   rw[e4]at e
   have s5:Same H3 H4:=by rw[e];exact s4 _
   have hD4:H4 D=some (.lst ((zs.map fun x=>x.1.to_+st.clearing).map nV)):=by rw[e];exact upd_same
   have I4:=I3.same s5
   refine⟨_,rfl,h,t.c_House,dx,_,_,rfl,I4.self,T.cl_House,T.no_House_now,rfl,(by show 1≤sizeLine;decide),fun p5 hp5=>?_⟩
   have s6:Same H4 (upd H4 p5 (.lst [nV st.now])):=Same.new hp5
   refine⟨_,rfl,p5,D,_,_,rfl,rfl,upd_same,s6 _ _ hD4,?_,fun p6 hp6=>?_⟩
   ·rw[List.length_map,List.length_map,sizeLine_eq]
    show 1+zs.length≤_
    omega
   have el:[nV st.now]++(zs.map fun x=>x.1.to_+st.clearing).map nV=((st.now::zs.map fun x=>x.1.to_+st.clearing).map fun n:Nat=>(n:Int)).map V.int:=by
    rw[←map_nV]
    rfl
   rw[el]
   have s7: ∀o,Same (upd H4 p5 (.lst [nV st.now])) (upd (upd H4 p5 (.lst [nV st.now])) p6 o):=fun o=>Same.new hp6
   refine⟨p6,_,rfl,SqL.of upd_same,?_,fun p7 n7 hp7 hn7=>?_⟩
   ·rw[List.length_map,List.length_cons,List.length_map]
    omega
   rw[List.length_map,List.length_cons,List.length_map]at hn7
   refine⟨p7,_,n7,rfl,upd_same,by omega,fun D8 ms hD8 k1 k2 k3=>?_⟩
   have sN:Same H4 (upd (upd (upd (upd H4 p5 (.lst [nV st.now])) p6 (.lst (((st.now::zs.map fun x=>x.1.to_+st.clearing).map fun n:Nat=>(n:Int)).map V.int))) p7 (setO _ _ p7 ((st.now::zs.map fun x=>x.1.to_+st.clearing).map fun n:Nat=>(n:Int)) n7)) D8 (.lst (ms.map V.int))):=
    s6.trans ((s7 _).trans ((Same.new hp7).trans (Same.new hD8)))
   have nn: ∀x∈ms,0≤x:=fun x hx=>by
    obtain⟨y,_,rfl⟩:=List.mem_map.mp ((k2 x).mp hx)
    omega
   have sA:=s13.trans (s5.trans sN)
   refine k _ D8 (ms.map Int.toNat) sA ?_ ?_ ?_ fun x=>?_
   ·exact Same.none s13 (Same.none s5 (Same.none (s6.trans ((s7 _).trans (Same.new hp7))) hD8))
   ·rw[upd_same,nat_list nn]
   ·rw[List.pairwise_map]
    exact k1.imp fun h=>by omega
   ·rw[List.mem_map]
    constructor
    ·rintro⟨y,hy,rfl⟩
     obtain⟨z,hz2,rfl⟩:=List.mem_map.mp ((k2 y).mp hy)
     rw[Int.toNat_natCast]
     rcases List.mem_cons.mp hz2 with rfl | hz2
     ·exact .inl rfl
     ·obtain⟨u,hu,rfl⟩:=List.mem_map.mp hz2
      exact .inr ⟨u,by rw[hz];exact hu,rfl⟩
    ·intro hx
     refine⟨(x:Int),(k2 _).mpr (List.mem_map.mpr ⟨x,?_,rfl⟩),Int.toNat_natCast x⟩
     rcases hx with rfl | ⟨u,hu,rfl⟩
     ·exact List.mem_cons_self ..
     ·exact List.mem_cons_of_mem _ (List.mem_map.mpr ⟨u,by rw[←hz];exact hu,rfl⟩)
inductive spEarliest(t:Adr)(vs:List V)(H:Hp)(Q:VK)(_:XK):Prop
 | mk (h:Addr) (s:Vbhoae.State) (n len:Nat) (_:vs=[.ref h,nV n,nV len]) (_:HouseAt t H h s) (_:(My.prom s).length ≤5) (_:(Vbhoae.blocks s.room).length ≤1000) (_:(∀x∈My.prom s,1≤x.1.size)) (_:1≤n) (_: ∀(H':Hp) (v:V) (ms:List Nat) (P:Nat→Bool),Same H H'→ms.Pairwise (· ≤ ·)→(∀x,x∈ms↔isMinute s x)→(∀x,P x=true↔My.Giv (((My.prom s).map fun x=>My.wantOf s x.1)++[My.wantOf s (My.newP n x len)]))→(match ms.find? P with | some m=>v=nV m | none=>v= .non)→Q v H')
theorem ok_earliest_promise(T:Txt K mg t):FnOk P w K mg base CX0 13 t.f_House_earliest_promise t.d_House_earliest_promise ["self","size","minutes"] (spEarliest t):=by
 refine T.fu_House_earliest_promise.ok sc_House_earliest_promise (fun vs H Q E h=>?_) (fun cdv A outer s H vs Q E hr h=>?_)
 ·obtain⟨h,s,n,len,rfl,_⟩:=h
  rfl
 ·obtain⟨h,st,n,len,rfl,⟨dx,lb,lr,lp,bas,ras,pas,I⟩,h5,hbl,hsz,hn,k⟩:=h
  have nd:=sc_House_earliest_promise.nd
  refine⟨_,pss_cons (ps_set (i:=3) nd rfl (Or.inl rfl) (pe_meth0 (pv 0) T.cl_House T.me_House_promised (ok_promised T) (hr.mono (by omega)) T.bi_House_promised .nil pass0))
   (pss_cons (ps_for PassesOwn.never rfl (pi_list (pe_meth0 (pv 0) T.cl_House T.me_House_minutes_to_try (ok_minutes_to_try T) (hr.mono (by omega)) T.bi_House_minutes_to_try .nil pass0)) (pg_name (i:=4) nd rfl (Or.inl rfl))
    (pss_one (ps_if (pt_val (pe_meth (pv 0) T.cl_House T.me_House_can_keep (ok_can_keep T) (hr.mono (by omega)) T.bi_House_can_keep .nil pass0
      (pa_cons (pe_op op_cat (pv 3) (pe_lst (pa_cons (pe_meth (pv 0) T.cl_House T.me_House_party_to_promise (ok_party_to_promise T) (hr.mono (by omega)) T.bi_House_party_to_promise .nil pass0 (pa_cons (pv 1) (pa_cons (pv 4) (pa_cons (pv 2) pa_nil)))) pa_nil))) pa_nil)))
     (pss_one (ps_ret (pv 4))) pss_nil)))
   (pss_one (ps_ret pe_non))),?_⟩
  refine⟨_,rfl,h,dx,_,rfl,I.self,rfl,?_⟩
  refine⟨h,st,rfl,⟨dx,lb,lr,lp,bas,ras,pas,I⟩,fun H1 l1 as s1 n1 hl1 hp1=>?_⟩
  have I1:=I.same s1
  refine⟨_,rfl,h,dx,_,rfl,I1.self,rfl,?_⟩
  refine⟨h,st,rfl,⟨dx,lb,lr,lp,bas,ras,pas,I1⟩,fun H2 q ms s2 n2 hq k1 k2=>?_⟩
  have s12:=s1.trans s2
  let Pb:Nat→Bool:=fun x=> @decide (My.Giv (((My.prom st).map fun x=>My.wantOf st x.1)++[My.wantOf st (My.newP n x len)])) (Classical.propDecidable _)
  have hPb: ∀x,Pb x=true↔My.Giv (((My.prom st).map fun x=>My.wantOf st x.1)++[My.wantOf st (My.newP n x len)]):=fun x=> @decide_eq_true_iff _ (Classical.propDecidable _)
  refine⟨q,rfl,⟨_,SqL.of hq⟩,?_⟩
  refine for_list (K:=K) (a:=q) (xs:=ms.map nV) (fun i σ H'=> ∃v4:Option V,σ=[some (.ref h),some (nV n),some (nV len),some (.ref l1),v4]∧Same H2 H'∧ ∀j x,j<i→ms[j]? =some x→ ¬Pb x=true)
   ⟨none,rfl,Same.refl _,fun j x hj=>absurd hj (Nat.not_lt_zero _)⟩ (fun i σ H' _ ⟨_,_,s5,_⟩=>s5.seq (SqL.of hq)) ?_ ?_
  ·rintro i y σ H' hi ⟨v4,rfl,s5,hno⟩
   rw[List.getElem?_map]at hi
   obtain⟨m,hm,rfl⟩:=Option.map_eq_some_iff.mp hi
   have s05:=s12.trans s5
   have s15:=s2.trans s5
   have I5:=I.same s05
   refine⟨_,rfl,h,dx,_,rfl,I5.self,rfl,_,rfl,_,rfl,h,dx,_,rfl,I5.self,rfl,_,rfl,_,rfl,_,rfl,?_⟩
   refine⟨h,st,n,m,len,rfl,⟨dx,lb,lr,lp,bas,ras,pas,I5⟩,fun H6 a s6 n6 hp6=>?_⟩
   refine⟨(by show 1≤sizeLine;decide),fun p7 hp7=>?_⟩
   have s7:Same H6 (upd H6 p7 (.lst [V.ref a])):=Same.new hp7
   have hl7:=s7 _ _ (s6 _ _ (s15 _ _ hl1))
   have lp1:=Paired.length hp1
   refine⟨l1,p7,_,_,rfl,rfl,hl7,upd_same,?_,fun p8 hp8=>?_⟩
   ·rw[List.length_map,sizeLine_eq]
    show as.length+1≤_
    omega
   have ea:as.map V.ref++[V.ref a]=(as++[a]).map V.ref:=by rw[List.map_append];rfl
   rw[ea]
   have s8:Same (upd H6 p7 (.lst [V.ref a])) (upd (upd H6 p7 (.lst [V.ref a])) p8 (.lst ((as++[a]).map V.ref))):=Same.new hp8
   have hp8':upd (upd H6 p7 (.lst [V.ref a])) p8 (.lst ((as++[a]).map V.ref)) p8=some (.lst ((as++[a]).map V.ref)):=upd_same
   generalize upd (upd H6 p7 (.lst [V.ref a])) p8 (.lst ((as++[a]).map V.ref))=H8 at s8 hp8' ⊢
   have s68:=s7.trans s8
   have s58:=s6.trans s68
   refine⟨h,p8,st,as++[a],My.prom st++[(My.newP n m len,st.parties.length+1)],rfl,⟨dx,lb,lr,lp,bas,ras,pas,I5.same s58⟩,SqL.of hp8',paired_snoc (hp6.same s68) (Paired.mapP hp1 fun _ _ z=>z.same (s15.trans s58)),hbl,?_,?_,fun H9 b s9 hb=>?_⟩
   ·intro x hx
    rcases List.mem_append.mp hx with hx | hx
    ·exact hsz x hx
    ·rw[List.mem_singleton.mp hx]
     exact hn
   ·rw[List.length_append]
    show _+1≤6
    omega
   ·rw[List.map_append]at hb
    have hb2:b=true↔Pb m=true:=hb.trans (hPb m).symm
    have sA:=s5.trans (s58.trans s9)
    refine⟨b,rfl,?_⟩
    cases b with
    | true=>
     refine iteT ⟨_,rfl,k H9 _ ms Pb (s12.trans sA) k1 k2 hPb ?_⟩
     rw[My.first_at hm (hb2.mp rfl) hno]
    | false=>
     refine iteF ⟨_,rfl,sA,fun j x hj hx=>?_⟩
     by_cases hji:j=i
     ·subst hji
      rw[hm]at hx
      cases hx
      exact fun z=>absurd (hb2.mpr z) Bool.false_ne_true
     ·exact hno j x (by omega) hx
  ·rintro σ H' ⟨v4,rfl,s5,hno⟩
   refine k H' _ ms Pb (s12.trans s5) k1 k2 hPb ?_
   have e:ms.find? Pb=none:=List.find?_eq_none.mpr fun x hx=>by
    obtain⟨j,hj,e⟩:=List.getElem_of_mem hx
    refine hno j x ?_ (by rw[List.getElem?_eq_getElem hj,e])
    rw[List.length_map]
    exact hj
   rw[e]
def aged(tm:Nat)(p:Vbhoae.Party):Vbhoae.Party:=if p.stage=1∧p.to_≤tm then{p with stage:=2}else if p.stage=0∧p.to_≤tm then{p with stage:=4}else p
def agedTo(s:Vbhoae.State)(tm i:Nat):Vbhoae.State:={s with now:=tm,parties:=(s.parties.take i).map (aged tm)++s.parties.drop i}
theorem agedTo_at{s:Vbhoae.State}{tm i:Nat}{p:Vbhoae.Party}(h:s.parties[i]? =some p):(agedTo s tm i).parties[i]? =some p∧agedTo s tm (i+1)=Vbhoae.setParty (agedTo s tm i) (i+1) (aged tm):=by
 have hl:i<s.parties.length:=(List.getElem?_eq_some_iff.mp h).1
 have l1:((s.parties.take i).map (aged tm)).length =i:=by
  rw[List.length_map,List.length_take]
  omega
 have g: ∀j k,((s.parties.take k).map (aged tm)++s.parties.drop k)[j]? =if j<k then(s.parties[j]?).map (aged tm)else s.parties[j]? :=by
  intro j k
  by_cases hk:k≤s.parties.length
  ·have lk:((s.parties.take k).map (aged tm)).length =k:=by
    rw[List.length_map,List.length_take]
    omega
   by_cases hj:j<k
   ·rw[if_pos hj,List.getElem?_append_left (by omega),List.getElem?_map,List.getElem?_take_of_lt hj]
   ·rw[if_neg hj,List.getElem?_append_right (by omega),lk,List.getElem?_drop]
    congr 1
    omega
  ·rw[List.take_of_length_le (by omega),List.drop_of_length_le (by omega),List.append_nil,List.getElem?_map]
   by_cases hj:j<k
   ·rw[if_pos hj]
   ·rw[if_neg hj,List.getElem?_eq_none (by omega)]
    rfl
 refine⟨?_,?_⟩
 ·show((s.parties.take i).map (aged tm)++s.parties.drop i)[i]? =_
  rw[g,if_neg (Nat.lt_irrefl _),h]
 ·unfold agedTo Vbhoae.setParty
  simp only[Vbhoae.State.mk.injEq,true_and]
  refine List.ext_getElem? fun j=>?_
  rw[My.mapAt_get,g,g]
  have e:i+1-1=i:=by omega
  rw[e]
  by_cases h1:j=i
  ·subst h1
   rw[if_pos (by omega),if_pos rfl,if_neg (by omega)]
  ·rw[if_neg h1]
   by_cases h2:j<i
   ·rw[if_pos (by omega),if_pos h2]
   ·rw[if_neg (by omega),if_neg h2]
theorem agedTo_all(s:Vbhoae.State)(m:Nat):agedTo s (s.now+m) s.parties.length=Vbhoae.passed s m:=by
 unfold agedTo Vbhoae.passed
 rw[List.take_length,List.drop_length,List.append_nil]
 rfl
theorem aged_same{tm:Nat}{s:Vbhoae.State}{i:Nat}{p:Vbhoae.Party}(h:(agedTo s tm i).parties[i]? =some p)(e:aged tm p=p):Vbhoae.setParty (agedTo s tm i) (i+1) (aged tm)=agedTo s tm i:=by
 unfold Vbhoae.setParty
 have:Vbhoae.mapAt (aged tm) (i+1-1) (agedTo s tm i).parties =(agedTo s tm i).parties :=by
  refine List.ext_getElem? fun j=>?_
  rw[My.mapAt_get]
  by_cases h1:j=i+1-1
  ·rw[if_pos h1]
   have:j=i:=by omega
   subst this
   rw[h]
   show some (aged tm p)=_
   rw[e]
  ·rw[if_neg h1]
 rw[this]
theorem HouseIs.clock{H:Hp}{s:Vbhoae.State}{h dx lb lr lp:Addr}{bas ras pas:List Addr}(I:HouseIs t H s h dx lb lr lp bas ras pas)(tm:Nat):HouseIs t (upd H h (.ins t.c_House dx (houseF {s with now:=tm} lb lr lp))) {s with now:=tm} h dx lb lr lp bas ras pas:=by
 have nl: ∀{b:Addr} {xs:List V},H b=some (.lst xs)→upd H h (.ins t.c_House dx (houseF {s with now:=tm} lb lr lp)) b=some (.lst xs):=fun{b xs} e=>by
  rw[upd_ne (ne_of e I.self (by intro z;cases z))]
  exact e
 have nB: ∀{c:Addr} {b:Vbhoae.Block},BlkAt t H c s.room b→BlkAt t (upd H h (.ins t.c_House dx (houseF {s with now:=tm} lb lr lp))) c s.room b:=fun{c b} ⟨dy,q⟩=>⟨dy,by
  rw[upd_ne (ne_of q I.self blk_house)]
  exact q⟩
 refine⟨upd_same,nl I.lb,Paired.mapP (show Paired (fun a b=>BlkAt t H a s.room b) _ _ from I.bs) fun _ _ q=>nB q,nl I.lr,Paired.mapP I.rs fun _ _ q=>nl q,nl I.lp,Paired.mapP I.ps fun c x q=>?_,I.nb,I.nr,I.nrs,I.few⟩
 obtain⟨dy,bv,q1,q2⟩:=q
 refine⟨dy,bv,by rw[upd_ne (ne_of q1 I.self pty_house)];exact q1,?_⟩
 rcases q2 with ⟨b1,c,b2,b3⟩ | b1
 ·exact .inl ⟨b1,c,b2,nB b3⟩
 ·exact .inr b1
theorem Fr.self{H:Hp}{h lp:Addr}{o:HO}:Fr h lp H (upd H h o):=⟨fun b v e n _ _=>by
 rw[upd_ne n]
 exact e,fun b e=>upd_none e⟩
inductive spGoOn(t:Adr)(vs:List V)(H:Hp)(Q:VK)(_:XK):Prop
 | mk (h lp:Addr) (s:Vbhoae.State) (m:Nat) (dx lb lr:Addr) (bas ras pas:List Addr) (_:vs=[.ref h,nV m]) (_:HouseIs t H s h dx lb lr lp bas ras pas) (_: ∀H':Hp,HouseIs t H' (Vbhoae.passed s m) h dx lb lr lp bas ras pas→Fr h lp H H'→Q .non H')
theorem ok_go_on(T:Txt K mg t):FnOk P w K mg base CX0 1 t.f_House_go_on t.d_House_go_on ["self","minutes"] (spGoOn t):=by
 refine T.fu_House_go_on.ok sc_House_go_on (fun vs H Q E h=>?_) (fun cdv A outer s H vs Q E hr h=>?_)
 ·obtain⟨h,lp,s,m,dx,lb,lr,bas,ras,pas,rfl,_⟩:=h
  rfl
 ·obtain⟨h,lp,st,m,dx,lb,lr,bas,ras,pas,rfl,I,k⟩:=h
  have nd:=sc_House_go_on.nd
  obtain⟨k0,hk0⟩:=T.ct_PROMISED
  obtain⟨k1,hk1⟩:=T.ct_AT_A_TABLE
  obtain⟨k2,hk2⟩:=T.ct_LEFT
  obtain⟨k4,hk4⟩:=T.ct_NEVER_CAME
  refine⟨_,pss_cons (ps_fldaug (pv 0) (pv 1) in_add)
   (pss_one (ps_for PassesOwn.never rfl (pi_list (pe_fld (pv 0) rfl)) (pg_name (i:=2) nd rfl (Or.inl rfl))
    (pss_one (ps_if (pt_cmpR op_le (pe_fld (pv 2) rfl) (pe_fld (pv 0) rfl) (nomark _))
     (pss_one (ps_if (pt_cmpR op_eq (pe_fld (pv 2) rfl) (pe_glob (v:= .int 1) rfl hk1 ⟨_,rfl⟩) (nomark _)) (pss_one (ps_fld (pv 2) (pe_glob (v:= .int 2) rfl hk2 ⟨_,rfl⟩) rfl))
      (pss_one (ps_if (pt_cmpR op_eq (pe_fld (pv 2) rfl) (pe_glob (v:= .int 0) rfl hk0 ⟨_,rfl⟩) (nomark _)) (pss_one (ps_fld (pv 2) (pe_glob (v:= .int 4) rfl hk4 ⟨_,rfl⟩) rfl)) pss_nil)))) pss_nil)))),?_⟩
  refine⟨_,rfl,h,t.c_House,dx,_,_,rfl,I.self,T.cl_House,T.no_House_now,rfl,_,rfl,_,_,rfl,rfl,dx,_,I.self,(by show 7<1000;decide),?_⟩
  have en:((st.now:Nat):Int)+((m:Nat):Int)=((st.now+m:Nat):Int):=by omega
  rw[en]
  have I1:=I.clock (st.now+m)
  have f1:Fr h lp H (upd H h (.ins t.c_House dx (houseF {st with now:=st.now+m} lb lr lp))):=Fr.self
  show VarQ _ _ _ _
  have e0:upd H h (.ins t.c_House dx (putF "now" (V.int ((st.now+m:Nat):Int)) (houseF st lb lr lp)))=upd H h (.ins t.c_House dx (houseF {st with now:=st.now+m} lb lr lp)):=rfl
  rw[e0]
  generalize upd H h (.ins t.c_House dx (houseF {st with now:=st.now+m} lb lr lp))=H1 at I1 f1 ⊢
  have ea:({st with now:=st.now+m}:Vbhoae.State)=agedTo st (st.now+m) 0:=by
   unfold agedTo
   simp
  rw[ea]at I1
  refine⟨_,rfl,h,t.c_House,dx,_,_,rfl,I1.self,T.cl_House,T.no_House_parties,rfl,lp,rfl,⟨_,SqL.of I1.lp⟩,?_⟩
  refine for_list (K:=K) (a:=lp) (xs:=pas.map V.ref) (fun i σ H'=> ∃v2:Option V,σ=[some (.ref h),some (nV m),v2]∧HouseIs t H' (agedTo st (st.now+m) i) h dx lb lr lp bas ras pas∧Fr h lp H H')
   ⟨none,rfl,I1,f1⟩ (fun i σ H' _ ⟨_,_,J,_⟩=>SqL.of J.lp) ?_ ?_
  ·rintro i y σ H' hi ⟨v2,rfl,J,fJ⟩
   rw[List.getElem?_map]at hi
   obtain⟨a,ha,rfl⟩:=Option.map_eq_some_iff.mp hi
   obtain⟨⟨p,no⟩,hp,dp,bv,h1,h2⟩:=paired_at J.ps ha
   obtain⟨hp1,hp2⟩:=zip_at hp
   dsimp only at hp1 hp2 h1 h2
   subst hp2
   have hst:st.parties[i]? =some p:=by
    have hl:i<st.parties.length:=by
     have q1:=(List.getElem?_eq_some_iff.mp ha).1
     have q2:=Paired.length I.ps
     rw[List.length_zipIdx]at q2
     omega
    obtain⟨q1,_⟩:=agedTo_at (tm:=st.now+m) (List.getElem?_eq_getElem hl)
    rw[hp1]at q1
    cases q1
    exact List.getElem?_eq_getElem hl
   obtain⟨_,hnext⟩:=agedTo_at (tm:=st.now+m) hst
   have stay:aged (st.now+m) p=p→HouseIs t H' (agedTo st (st.now+m) (i+1)) h dx lb lr lp bas ras pas:=fun e=>by
    rw[hnext,aged_same hp1 e]
    exact J
   refine⟨_,rfl,a,t.c_Party,dp,_,_,rfl,h1,T.cl_Party,T.no_Party_time_to,rfl,_,rfl,h,t.c_House,dx,_,_,rfl,J.self,T.cl_House,T.no_House_now,rfl,_,_,rfl,rfl,_,rfl,?_⟩
   refine ite2 (fun c1=>?_) (fun c1=>?_)
   ·have c1':p.to_≤st.now+m:=by
     have:((p.to_:Nat):Int)≤((st.now+m:Nat):Int):=of_decide_eq_true c1
     omega
    refine⟨_,rfl,a,t.c_Party,dp,_,_,rfl,h1,T.cl_Party,T.no_Party_stage,rfl,rfl,_,rfl,?_⟩
    refine ite2 (fun c2=>?_) (fun c2=>?_)
    ·have c2':p.stage=1:=by
      have:=V.int.inj (of_decide_eq_true c2)
      omega
     refine⟨_,rfl,a,t.c_Party,dp,_,rfl,h1,T.cl_Party,T.no_Party_stage,(by show 6<1000;decide),some (.ref a),rfl,?_,fJ.trans (Fr.put h1 ⟨_,_,_,_,_,rfl⟩)⟩
     have eg:aged (st.now+m) p={p with stage:=2}:=if_pos ⟨c2',c1'⟩
     rw[hnext]
     have:=J.put (g:=aged (st.now+m)) (bv':=bv) ha hp1 h1 (by
      rw[eg]
      rcases h2 with ⟨_,c,b2,b3⟩ | ⟨b1,_⟩
      ·exact .inl ⟨.inr rfl,c,b2,b3⟩
      ·exact absurd (.inl c2') b1)
     rw[eg]at this
     exact this
    ·refine⟨_,rfl,a,t.c_Party,dp,_,_,rfl,h1,T.cl_Party,T.no_Party_stage,rfl,rfl,_,rfl,?_⟩
     have c2':p.stage≠1:=fun z=>c2 (decide_eq_true (by rw[z];rfl))
     refine ite2 (fun c3=>?_) (fun c3=>?_)
     ·have c3':p.stage=0:=by
       have:=V.int.inj (of_decide_eq_true c3)
       omega
      refine⟨_,rfl,a,t.c_Party,dp,_,rfl,h1,T.cl_Party,T.no_Party_stage,(by show 6<1000;decide),some (.ref a),rfl,?_,fJ.trans (Fr.put h1 ⟨_,_,_,_,_,rfl⟩)⟩
      have eg:aged (st.now+m) p={p with stage:=4}:=by
       unfold aged
       rw[if_neg fun z=>c2' z.1,if_pos ⟨c3',c1'⟩]
      rw[hnext]
      have:=J.put (g:=aged (st.now+m)) (bv':=bv) ha hp1 h1 (by
       rw[eg]
       rcases h2 with ⟨b1,_⟩ | ⟨_,b2⟩
       ·rcases b1 with b1 | b1<;>omega
       ·exact .inr ⟨(by intro z;rcases z with z | z<;>cases z),b2⟩)
      rw[eg]at this
      exact this
     ·have c3':p.stage≠0:=fun z=>c3 (decide_eq_true (by rw[z];rfl))
      refine⟨some (.ref a),rfl,stay ?_,fJ⟩
      unfold aged
      rw[if_neg fun z=>c2' z.1,if_neg fun z=>c3' z.1]
   ·have c1': ¬p.to_≤st.now+m:=fun z=>c1 (decide_eq_true (by
     show((p.to_:Nat):Int)≤((st.now+m:Nat):Int)
     omega))
    refine⟨some (.ref a),rfl,stay ?_,fJ⟩
    unfold aged
    rw[if_neg fun z=>c1' z.2,if_neg fun z=>c1' z.2]
  ·rintro σ H' ⟨v2,rfl,J,fJ⟩
   have el:(pas.map V.ref).length =st.parties.length:=by
    have q2:=Paired.length I.ps
    rw[List.length_zipIdx]at q2
    rw[List.length_map,q2]
   rw[el,agedTo_all]at J
   exact k H' J fJ
inductive spHouse(t:Adr)(vs:List V)(H:Hp)(Q:VK)(_:XK):Prop
 | mk (p dx:Addr) (_:vs=[.ref p]) (_:H p=some (.ins t.c_House dx [])) (_: ∀(H':Hp) (lp:Addr),HouseLp t H' p lp Vbhoae.start→(∀b o,H b=some o→b≠p→H' b=some o)→H lp=none→Q .non H')
theorem ok_House_init(T:Txt K mg t):FnOk P w K mg base CX0 1 t.f_House_init t.d_House_init ["self"] (spHouse t):=by
 refine T.fu_House_init.ok sc_House_init (fun vs H Q E h=>?_) (fun cdv A outer s H vs Q E hr h=>?_)
 ·obtain⟨p,dx,rfl,_⟩:=h
  rfl
 ·obtain⟨p,dx,rfl,hp,k⟩:=h
  refine⟨_,pss_cons (ps_fld (pv 0) pe_bl rfl) (pss_cons (ps_fld (pv 0) pe_int rfl) (pss_cons (ps_fld (pv 0) pe_int rfl) (pss_cons (ps_fld (pv 0) (pe_lst pa_nil) rfl) (pss_cons (ps_fld (pv 0) (pe_lst pa_nil) rfl) (pss_cons (ps_fld (pv 0) pe_int rfl) (pss_one (ps_fld (pv 0) (pe_lst pa_nil) rfl))))))),?_⟩
  refine⟨_,rfl,p,t.c_House,dx,_,rfl,hp,T.cl_House,T.no_House_is_open,(by show 0<1000;decide),?_⟩
  refine⟨_,rfl,p,t.c_House,dx,_,rfl,upd_same,T.cl_House,T.no_House_loss,(by show 1<1000;decide),?_⟩
  refine⟨_,rfl,p,t.c_House,dx,_,rfl,upd_same,T.cl_House,T.no_House_clearing,(by show 2<1000;decide),?_⟩
  rw[upd_upd,upd_upd]
  generalize hH3:upd H p _=H3
  have g3:H3 p=some (.ins t.c_House dx [("is_open",.bl false),("loss",.int 0),("clearing",.int 0)]):=by rw[←hH3];exact upd_same
  have f3: ∀b o,H b=some o→b≠p→H3 b=some o:=fun b o e n=>by rw[←hH3,upd_ne n];exact e
  have z3: ∀b,H3 b=none→H b=none:=fun b e=>by
   cases e2:H b with
   | none=>rfl
   | some o=>
    by_cases n:b=p
    ·rw[n,g3]at e
     cases e
    ·rw[f3 b o e2 n]at e
     cases e
  clear hH3
  refine⟨Nat.zero_le _,fun l1 hl1=>?_⟩
  have n1:p≠l1:=ne_of_none g3 hl1
  refine⟨_,rfl,p,t.c_House,dx,_,rfl,by rw[upd_ne n1];exact g3,T.cl_House,T.no_House_rows,(by show 3<1000;decide),?_⟩
  refine⟨Nat.zero_le _,fun l2 hl2=>?_⟩
  have n2:p≠l2:=fun z=>by rw[←z,upd_same]at hl2;cases hl2
  have n12:l1≠l2:=fun z=>by rw[←z,upd_ne (Ne.symm n1),upd_same]at hl2;cases hl2
  refine⟨_,rfl,p,t.c_House,dx,_,rfl,by rw[upd_ne n2];exact upd_same,T.cl_House,T.no_House_blocks,(by show 4<1000;decide),?_⟩
  refine⟨_,rfl,p,t.c_House,dx,_,rfl,upd_same,T.cl_House,T.no_House_now,(by show 5<1000;decide),?_⟩
  refine⟨Nat.zero_le _,fun l3 hl3=>?_⟩
  rw[upd_upd]at hl3 ⊢
  have n3:p≠l3:=fun z=>by rw[←z,upd_same]at hl3;cases hl3
  have n23:l2≠l3:=fun z=>by rw[←z,upd_ne (Ne.symm n2),upd_same]at hl3;cases hl3
  have n13:l1≠l3:=fun z=>by rw[←z,upd_ne (Ne.symm n1),upd_ne n12,upd_ne (Ne.symm n1),upd_same]at hl3;cases hl3
  have f3n:H3 l3=none:=by
   rw[upd_ne (Ne.symm n3),upd_ne (Ne.symm n23),upd_ne (Ne.symm n3),upd_ne (Ne.symm n13)]at hl3
   exact hl3
  have hl2':H3 l2=none:=by
   rw[upd_ne (Ne.symm n2),upd_ne (Ne.symm n12)]at hl2
   exact hl2
  refine⟨_,rfl,p,t.c_House,dx,_,rfl,by rw[upd_ne n3];exact upd_same,T.cl_House,T.no_House_parties,(by show 6<1000;decide),?_⟩
  refine k _ l3 ⟨dx,l2,l1,[],[],[],upd_same,?_,.nil,?_,.nil,?_,.nil,n23,n13,(fun a ha=>nomatch ha),Nat.zero_le _⟩ (fun b o e n=>?_) (z3 l3 f3n)
  ·rw[upd_ne (Ne.symm n2),upd_ne n23,upd_ne (Ne.symm n2),upd_same]
   rfl
  ·rw[upd_ne (Ne.symm n1),upd_ne n13,upd_ne (Ne.symm n1),upd_ne n12,upd_ne (Ne.symm n1),upd_same]
   rfl
  ·rw[upd_ne (Ne.symm n3),upd_same]
   rfl
  ·have e3:=f3 b o e n
   rw[upd_ne n,upd_ne (ne_of_none e3 f3n),upd_ne n,upd_ne (ne_of_none e3 hl2'),upd_ne n,upd_ne (ne_of_none e3 hl1)]
   exact e3
inductive spBegin(t:Adr)(vs:List V)(H:Hp)(Q:VK)(_:XK):Prop
 | mk (h lp rl:Addr) (s:Vbhoae.State) (r:Vbhoae.Room) (c:Nat) (ras:List Addr) (_:vs=[.ref h,nV r.loss,nV c,.ref rl]) (_:HouseLp t H h lp s) (_:s.parties=[]) (_:H rl=some (.lst (ras.map V.ref))) (_:Paired (RowAt H) ras r.rows) (_:rl≠lp) (_:(∀a∈ras,a≠lp)) (_:r.loss≤3) (_:(∀row∈r.rows,row.length≤8)) (_:r.rows.length≤3) (_: ∀(H':Hp) (dx l:Addr) (as:List Addr),HouseIs t H' {s with opened:=true,room:=r,clearing:=c} h dx l rl lp as ras []→H l=none→Fr h lp H H'→Q .non H')
theorem ok_begin(T:Txt K mg t):FnOk P w K mg base CX0 5 t.f_House_begin t.d_House_begin ["self","loss","clearing","rows"] (spBegin t):=by
 refine T.fu_House_begin.ok sc_House_begin (fun vs H Q E h=>?_) (fun cdv A outer s H vs Q E hr h=>?_)
 ·obtain⟨h,lp,rl,s,r,c,ras,rfl,_⟩:=h
  rfl
 ·obtain⟨h,lp,rl,st,r,c,rws,rfl,⟨dx,lb,lr,bas,ras,pas,I⟩,hps,hrl,hrs,nrl,nrs,h3,h8,hr3,k⟩:=h
  refine⟨_,pss_cons (ps_fld (pv 0) pe_bl rfl) (pss_cons (ps_fld (pv 0) (pv 1) rfl) (pss_cons (ps_fld (pv 0) (pv 2) rfl) (pss_cons (ps_fld (pv 0) (pv 3) rfl)
   (pss_one (ps_fld (pv 0) (pe_call (ok_blocks_of T) hr rfl T.mg_blocks_of T.fu_blocks_of.kp T.bi_blocks_of .nil pass0 (pa_cons (pv 3) (pa_cons (pv 1) pa_nil))) rfl))))),?_⟩
  refine⟨_,rfl,h,t.c_House,dx,_,rfl,I.self,T.cl_House,T.no_House_is_open,(by show 7<1000;decide),?_⟩
  refine⟨_,rfl,_,rfl,h,t.c_House,dx,_,rfl,upd_same,T.cl_House,T.no_House_loss,(by show 7<1000;decide),?_⟩
  refine⟨_,rfl,_,rfl,h,t.c_House,dx,_,rfl,upd_same,T.cl_House,T.no_House_clearing,(by show 7<1000;decide),?_⟩
  refine⟨_,rfl,_,rfl,h,t.c_House,dx,_,rfl,upd_same,T.cl_House,T.no_House_rows,(by show 7<1000;decide),?_⟩
  rw[upd_upd,upd_upd,upd_upd]
  generalize hH3:upd H h _=H3
  have g3:H3 h=some (.ins t.c_House dx [("is_open",.bl true),("loss",nV r.loss),("clearing",nV c),("rows",.ref rl),("blocks",.ref lb),("now",nV st.now),("parties",.ref lp)]):=by rw[←hH3];exact upd_same
  have f3: ∀b o,H b=some o→b≠h→H3 b=some o:=fun b o e n=>by rw[←hH3,upd_ne n];exact e
  clear hH3
  have nl: ∀{b:Addr} {xs:List V},H b=some (.lst xs)→H3 b=some (.lst xs):=fun{b xs} e=>f3 b _ e (ne_of e I.self (by intro z;cases z))
  refine⟨_,rfl,_,rfl,?_⟩
  refine⟨rl,r,rws,rfl,SqL.of (nl hrl),Paired.mapP hrs fun _ _ q=>SqL.of (nl q),h3,h8,hr3,fun H4 l as s4 n4 hl4 hB4=>?_⟩
  refine⟨_,rfl,h,t.c_House,dx,_,rfl,s4 _ _ g3,T.cl_House,T.no_House_blocks,(by show 7<1000;decide),?_⟩
  have nh: ∀{b:Addr} {xs:List V},H4 b=some (.lst xs)→b≠h:=fun{b xs} e=>ne_of e (s4 _ _ g3) (by intro z;cases z)
  have hpe:pas=[]:=by
   have q:=Paired.length I.ps
   rw[hps]at q
   exact List.length_eq_zero_iff.mp q
  subst hpe
  have hln:H l=none:=by
   cases e:H l with
   | none=>rfl
   | some o=>
    by_cases n:l=h
    ·rw[n,g3]at n4
     cases n4
    ·rw[f3 l o e n]at n4
     cases n4
  refine k _ dx l as ⟨upd_same,?_,?_,?_,?_,?_,?_,?_,nrl,nrs,?_⟩ hln ⟨fun b o e n1 n2 n3=>?_,fun b e=>?_⟩
  ·rw[upd_ne (nh hl4)]
   exact hl4
  ·refine Paired.mapP (show Paired (fun a b=>BlkAt t H4 a r b) _ _ from hB4) fun a b q=>?_
   obtain⟨db,q⟩:=q
   refine⟨db,?_⟩
   rw[upd_ne fun z=>by
    rw[z,s4 _ _ g3]at q
    exact head_ne (by decide) (HO.ins.inj (Option.some.inj q)).2.2]
   exact q
  ·have e:=s4 _ _ (nl hrl)
   rw[upd_ne (nh e)]
   exact e
  ·refine Paired.mapP hrs fun a row q=>?_
   have e:=s4 _ _ (nl q)
   show upd H4 h _ a=_
   rw[upd_ne (nh e)]
   exact e
  ·have e:=s4 _ _ (nl I.lp)
   rw[upd_ne (nh e)]
   exact e
  ·show Paired _ [] (st.parties.zipIdx 1)
   rw[hps]
   exact .nil
  ·exact fun z=>by
    rw[z,nl I.lp]at n4
    cases n4
  ·show st.parties.length≤60
   exact I.few
  ·rw[upd_ne n1]
   exact s4 _ _ (f3 b o e n1)
  ·have e3:=Same.none s4 (upd_none e)
   cases e2:H b with
   | none=>rfl
   | some o=>
    by_cases n:b=h
    ·rw[n,g3]at e3
     cases e3
    ·rw[f3 b o e2 n]at e3
     cases e3
inductive spBTold(t:Adr)(vs:List V)(H:Hp)(Q:VK)(_:XK):Prop
 | mk (c:Addr) (r:Vbhoae.Room) (b:Vbhoae.Block) (_:vs=[.ref c]) (_:BlkAt t H c r b) (_: ∀l,H l=none→Q (.ref l) (upd H l (.lst ((Vbhoae.blockRow b).map V.int))))
theorem ok_block_told(T:Txt K mg t):FnOk P w K mg base CX0 1 t.f_block_told t.d_block_told ["block"] (spBTold t):=by
 refine T.fu_block_told.ok sc_block_told (fun vs H Q E h=>?_) (fun cdv A outer s H vs Q E hr h=>?_)
 ·obtain⟨c,r,b,rfl,_⟩:=h
  rfl
 ·obtain⟨c,r,b,rfl,⟨dx,hb⟩,k⟩:=h
  refine⟨_,pss_one (ps_ret (pe_lst (pa_cons (pe_fld (pv 0) rfl) (pa_cons (pe_fld (pv 0) rfl) (pa_cons (pe_fld (pv 0) rfl) pa_nil))))),?_⟩
  exact⟨_,rfl,c,t.c_Block,dx,_,_,rfl,hb,T.cl_Block,T.no_Block_row,rfl,_,rfl,c,t.c_Block,dx,_,_,rfl,hb,T.cl_Block,T.no_Block_first,rfl,_,rfl,c,t.c_Block,dx,_,_,rfl,hb,T.cl_Block,T.no_Block_last,rfl,(by show 3≤sizeLine;decide),fun l hl=>k l hl⟩
inductive spPTold(t:Adr)(K:PySem.W.Frag)(vs:List V)(H:Hp)(Q:VK)(_:XK):Prop
 | mk (l:Addr) (r:Vbhoae.Room) (as:List Addr) (xs:List (Vbhoae.Party×Nat)) (_:vs=[.ref l]) (_:SqL K H l (as.map V.ref)) (_:Paired (PtyAt t H r) as xs) (_:xs.length≤1000) (_: ∀(H':Hp) (q:Addr),Same H H'→H q=none→H' q=some (.lst ((Vbhoae.nat xs.length::xs.map fun x=>Vbhoae.nat x.2).map V.int))→Q (.ref q) H')
theorem ok_parties_told(T:Txt K mg t):FnOk P w K mg base CX0 1 t.f_parties_told t.d_parties_told ["parties"] (spPTold t K):=by
 refine T.fu_parties_told.ok sc_parties_told (fun vs H Q E h=>?_) (fun cdv A outer s H vs Q E hr h=>?_)
 ·obtain⟨l,r,as,xs,rfl,_⟩:=h
  rfl
 ·obtain⟨l,r,as,xs,rfl,hS,hP,hlen,k⟩:=h
  have nd:=sc_parties_told.nd
  have ll:=Paired.length hP
  refine⟨_,pss_one (ps_ret (pe_op op_cat (pe_lst (pa_cons (pe_callB call_len_seq rfl T.bn_len PySem.boot_len (pa_cons (pv 0) pa_nil)) pa_nil))
   (pe_lc (own:=[("party",1)]) rfl nd (pi_list (pv 0)) (show BlkOk n_parties_told (defScope s_parties_told) _ _ from blk_of (by decide +kernel))
    (fun _ _ _ _ _=>pg_name (i:=1) nd rfl (Or.inl rfl)) (fun _ _ _ _ _=>pts_nil) (fun _ _ _ _ _=>bk_fld (pv 1) rfl)))),?_⟩
  refine⟨_,rfl,l,_,rfl,.inl hS,(by show 1≤sizeLine;decide),fun p hp=>?_⟩
  have s1:Same H (upd H p (.lst [V.int (((as.map V.ref).length :Nat):Int)])):=Same.new hp
  have hp1:upd H p (.lst [V.int (((as.map V.ref).length :Nat):Int)]) p=some (.lst [V.int (((as.map V.ref).length :Nat):Int)]):=upd_same
  generalize upd H p (.lst [V.int (((as.map V.ref).length :Nat):Int)])=H1 at s1 hp1 ⊢
  refine⟨_,rfl,l,rfl,⟨_,s1.seq hS⟩,fun D hD=>?_⟩
  have s2: ∀o,Same H1 (upd H1 D o):=fun o=>Same.new hD
  refine lc_list (K:=K) (a:=l) (xs:=as.map V.ref) (fun j H2=>H2=upd H1 D (.lst (((xs.take j).map fun x=>x.2).map nV))) rfl (fun j H2 _ e=>by rw[e];exact(s2 _).seq (s1.seq hS)) ?_ ?_
  ·rintro j y H2 hj e
   rw[List.getElem?_map]at hj
   obtain⟨a,ha,rfl⟩:=Option.map_eq_some_iff.mp hj
   obtain⟨x,hx,dp,bv,hp,_⟩:=paired_at hP ha
   subst e
   have g:=s2 (.lst (((xs.take j).map fun x=>x.2).map nV)) _ _ (s1 _ _ hp)
   refine⟨rfl,_,rfl,a,t.c_Party,dp,_,_,rfl,g,T.cl_Party,T.no_Party_number,rfl,_,upd_same,?_,?_⟩
   ·rw[List.length_map,List.length_map,List.length_take]
    exact small1000 (by omega)
   ·rw[upd_upd,List.take_add_one,hx,List.map_append,List.map_append]
    rfl
  ·rintro H2 e
   have e2:xs.take (as.map V.ref).length =xs:=by rw[List.length_map,ll,List.take_length]
   rw[e2]at e
   have s3:Same H1 H2:=by rw[e];exact s2 _
   refine⟨p,D,_,_,rfl,rfl,s3 _ _ hp1,by rw[e];exact upd_same,?_,fun p4 hp4=>?_⟩
   ·show 1+((xs.map fun x=>x.2).map nV).length ≤_
    rw[List.length_map,List.length_map,sizeLine_eq]
    omega
   ·refine k _ p4 (s1.trans (s3.trans (Same.new hp4))) (Same.none s1 (Same.none s3 hp4)) ?_
    rw[upd_same,List.length_map,ll,List.map_cons,List.map_map,List.map_map]
    rfl
inductive spHas(t:Adr)(vs:List V)(H:Hp)(Q:VK)(_:XK):Prop
 | mk (h:Addr) (s:Vbhoae.State) (n:Nat) (_:vs=[.ref h,nV n]) (_:HouseAt t H h s) (_:Q (.bl (decide (n≤s.parties.length))) H)
theorem pas_len{H:Hp}{s:Vbhoae.State}{h dx lb lr lp:Addr}{bas ras pas:List Addr}(I:HouseIs t H s h dx lb lr lp bas ras pas):pas.length=s.parties.length:=by
 have q:=Paired.length I.ps
 rw[List.length_zipIdx]at q
 exact q
theorem ok_has_party(T:Txt K mg t):FnOk P w K mg base CX0 1 t.f_has_party t.d_has_party ["house","number"] (spHas t):=by
 refine T.fu_has_party.ok sc_has_party (fun vs H Q E h=>?_) (fun cdv A outer s H vs Q E hr h=>?_)
 ·obtain⟨h,s,n,rfl,_⟩:=h
  rfl
 ·obtain⟨h,st,n,rfl,⟨dx,lb,lr,lp,bas,ras,pas,I⟩,k⟩:=h
  refine⟨_,pss_one (ps_ret (pe_cmpR op_le (pv 1) (pe_callB call_len_seq rfl T.bn_len PySem.boot_len (pa_cons (pe_fld (pv 0) rfl) pa_nil)) (nomark _))),?_⟩
  refine⟨_,rfl,_,rfl,h,t.c_House,dx,_,_,rfl,I.self,T.cl_House,T.no_House_parties,rfl,lp,_,rfl,.inl (SqL.of I.lp),_,_,rfl,rfl,?_⟩
  have e:decide (((n:Nat):Int)≤(((pas.map V.ref).length :Nat):Int))=decide (n≤st.parties.length):=decide_eq_decide.mpr (by rw[List.length_map,pas_len I];omega)
  show Q (.bl (decide (((n:Nat):Int)≤(((pas.map V.ref).length :Nat):Int)))) H
  rw[e]
  exact k
def refusal(s:Vbhoae.State)(n g:Nat):Int:=match Vbhoae.partyOf s n with
 | none=> -7
 | some x=>if x.stage≠g then -8 else 0
theorem partyOf_at{s:Vbhoae.State}{n:Nat}(h1:1≤n):Vbhoae.partyOf s n=s.parties[n-1]? :=if_neg (by omega)
inductive spRef(t:Adr)(vs:List V)(H:Hp)(Q:VK)(_:XK):Prop
 | mk (h:Addr) (s:Vbhoae.State) (n g:Nat) (_:vs=[.ref h,nV n,nV g]) (_:HouseAt t H h s) (_:1≤n) (_:Q (.int (refusal s n g)) H)
theorem ok_party_refusal(T:Txt K mg t):FnOk P w K mg base CX0 2 t.f_party_refusal t.d_party_refusal ["house","number","stage"] (spRef t):=by
 refine T.fu_party_refusal.ok sc_party_refusal (fun vs H Q E h=>?_) (fun cdv A outer s H vs Q E hr h=>?_)
 ·obtain⟨h,s,n,g,rfl,_⟩:=h
  rfl
 ·obtain⟨h,st,n,g,rfl,⟨dx,lb,lr,lp,bas,ras,pas,I⟩,hn,k⟩:=h
  refine⟨_,pss_cons (ps_if (pt_not (pt_val (pe_call (ok_has_party T) hr rfl T.mg_has_party T.fu_has_party.kp T.bi_has_party .nil pass0 (pa_cons (pv 0) (pa_cons (pv 1) pa_nil))))) (pss_one (ps_ret (pe_un un_neg pe_int))) pss_nil)
   (pss_cons (ps_if (pt_cmpR op_ne (pe_fld (pe_meth (pv 0) T.cl_House T.me_House_party_of (ok_party_of T) hr T.bi_House_party_of .nil pass0 (pa_cons (pv 1) pa_nil)) rfl) (pv 2) (nomark _)) (pss_one (ps_ret (pe_un un_neg pe_int))) pss_nil)
   (pss_one (ps_ret pe_int))),?_⟩
  refine⟨_,rfl,_,rfl,h,st,n,rfl,⟨dx,lb,lr,lp,bas,ras,pas,I⟩,_,rfl,?_⟩
  by_cases hl:n≤st.parties.length
  ·rw[decide_eq_true hl]
   refine iteF ?_
   have hlt:n-1<st.parties.length:=by omega
   have hx:st.parties[n-1]? =some st.parties[n-1]:=List.getElem?_eq_getElem hlt
   have ha:pas[n-1]? =some (pas[n-1]'(by rw[pas_len I];exact hlt)):=List.getElem?_eq_getElem _
   generalize pas[n-1]'(by rw[pas_len I];exact hlt)=a at ha
   obtain⟨⟨p,no⟩,hp,dp,bv,h1,_⟩:=paired_at I.ps ha
   obtain⟨hp1,_⟩:=zip_at hp
   dsimp only at hp1
   refine⟨_,rfl,h,dx,_,rfl,I.self,rfl,_,rfl,?_⟩
   refine⟨h,st,n-1,congrArg (fun k:Nat=>[V.ref h,nV k]) (show n=n-1+1 by omega),dx,lb,lr,lp,bas,ras,pas,a,I,ha,?_⟩
   refine⟨a,t.c_Party,dp,_,_,rfl,h1,T.cl_Party,T.no_Party_stage,rfl,_,rfl,rfl,_,rfl,?_⟩
   have er:refusal st n g=if p.stage≠g then -8 else 0:=by
    unfold refusal
    rw[partyOf_at hn,hp1]
   rw[er]at k
   by_cases hg:p.stage=g
   ·have ed:(!decide (nV p.stage=nV g))=false:=by rw[hg,decide_eq_true rfl];rfl
    rw[ed]
    rw[if_neg (fun z=>z hg)]at k
    exact iteF k
   ·have ed:(!decide (nV p.stage=nV g))=true:=by
     rw[decide_eq_false fun z=>hg (by have:=V.int.inj z;omega)]
     rfl
    rw[ed]
    rw[if_pos hg]at k
    exact iteT ⟨_,rfl,k⟩
  ·rw[decide_eq_false hl]
   have er:refusal st n g= -7:=by
    unfold refusal
    rw[partyOf_at hn,List.getElem?_eq_none (by omega)]
   rw[er]at k
   exact iteT ⟨_,rfl,k⟩
inductive spTabs(K:PySem.W.Frag)(vs:List V)(H:Hp)(Q:VK)(_:XK):Prop
 | mk (l:Addr) (as:List Addr) (ns:List Nat) (_:vs=[.ref l]) (_:SqL K H l (as.map V.ref)) (_:Paired (fun a n=> ∃ys:List V,SqL K H a ys∧ys.length=n) as ns) (_:ns.length≤1000) (_: ∀H':Hp,Same H H'→Q (nV ns.sum) H')
theorem ok_count_of_tables(T:Txt K mg t):FnOk P w K mg base CX0 1 t.f_count_of_tables t.d_count_of_tables ["rows"] (spTabs K):=by
 refine T.fu_count_of_tables.ok sc_count_of_tables (fun vs H Q E h=>?_) (fun cdv A outer s H vs Q E hr h=>?_)
 ·obtain⟨l,as,ns,rfl,_⟩:=h
  rfl
 ·obtain⟨l,as,ns,rfl,hS,hP,hlen,k⟩:=h
  have nd:=sc_count_of_tables.nd
  have ll:=Paired.length hP
  refine⟨_,pss_one (ps_ret (pe_callB (call_sumL rfl) rfl T.bn_sum PyProof.Rows.boot_sum (pa_cons
   (pe_lc (own:=[("row",1)]) rfl nd (pi_list (pv 0)) (show BlkOk n_count_of_tables (defScope s_count_of_tables) _ _ from blk_of (by decide +kernel))
    (fun _ _ _ _ _=>pg_name (i:=1) nd rfl (Or.inl rfl)) (fun _ _ _ _ _=>pts_nil) (fun _ _ _ _ _=>pe_callB bk_len rfl T.bn_len PySem.boot_len (pa_cons (pv 1) pa_nil))) pa_nil))),?_⟩
  refine⟨_,rfl,l,rfl,⟨_,hS⟩,fun D hD=>?_⟩
  have s2: ∀o,Same H (upd H D o):=fun o=>Same.new hD
  refine lc_list (K:=K) (a:=l) (xs:=as.map V.ref) (fun j H2=>H2=upd H D (.lst ((ns.take j).map nV))) rfl (fun j H2 _ e=>by rw[e];exact(s2 _).seq hS) ?_ ?_
  ·rintro j y H2 hj e
   rw[List.getElem?_map]at hj
   obtain⟨a,ha,rfl⟩:=Option.map_eq_some_iff.mp hj
   obtain⟨n,hn,ys,hy,hl⟩:=paired_at hP ha
   subst e
   refine⟨rfl,_,rfl,a,ys,rfl,.inl ((s2 _).seq hy),_,upd_same,?_,?_⟩
   ·rw[List.length_map,List.length_take]
    exact small1000 (by omega)
   ·rw[upd_upd,List.take_add_one,hn,List.map_append,hl]
    rfl
  ·rintro H2 e
   have e2:ns.take (as.map V.ref).length =ns:=by rw[List.length_map,ll,List.take_length]
   rw[e2]at e
   subst e
   refine⟨D,ns.map fun n:Nat=>(n:Int),rfl,?_,?_⟩
   ·rw[←map_nV]
    exact SqL.of upd_same
   ·rw[sum_cast]
    exact k _ (s2 _)
inductive spFull(t:Adr)(vs:List V)(H:Hp)(Q:VK)(_:XK):Prop
 | mk (h:Addr) (s:Vbhoae.State) (_:vs=[.ref h]) (_:HouseAt t H h s) (_: ∀H':Hp,Same H H'→Q (.bl (decide (60≤s.parties.length∨5≤(My.prom s).length))) H')
theorem ok_is_full(T:Txt K mg t):FnOk P w K mg base CX0 3 t.f_is_full t.d_is_full ["house"] (spFull t):=by
 refine T.fu_is_full.ok sc_is_full (fun vs H Q E h=>?_) (fun cdv A outer s H vs Q E hr h=>?_)
 ·obtain⟨h,s,rfl,_⟩:=h
  rfl
 ·obtain⟨h,st,rfl,⟨dx,lb,lr,lp,bas,ras,pas,I⟩,k⟩:=h
  obtain⟨k1,hk1⟩:=T.ct_MOST_PARTIES
  obtain⟨k2,hk2⟩:=T.ct_MOST_PROMISED
  refine⟨_,pss_one (ps_ret (pe_or (pe_cmpR op_ge (pe_callB call_len_seq rfl T.bn_len PySem.boot_len (pa_cons (pe_fld (pv 0) rfl) pa_nil)) (pe_glob (v:= .int 60) rfl hk1 ⟨_,rfl⟩) (nomark _))
   (pe_one (pe_cmpR op_ge (pe_callB call_len_seq rfl T.bn_len PySem.boot_len (pa_cons (pe_meth0 (pv 0) T.cl_House T.me_House_promised (ok_promised T) hr T.bi_House_promised .nil pass0) pa_nil)) (pe_glob (v:= .int 5) rfl hk2 ⟨_,rfl⟩) (nomark _))))),?_⟩
  refine⟨_,rfl,h,t.c_House,dx,_,_,rfl,I.self,T.cl_House,T.no_House_parties,rfl,lp,_,rfl,.inl (SqL.of I.lp),_,_,rfl,rfl,_,rfl,?_⟩
  have ep:(((pas.map V.ref).length :Nat):Int)=((st.parties.length:Nat):Int):=by rw[List.length_map,pas_len I]
  rw[ep]
  refine ite2 (fun c1=>?_) (fun c1=>?_)
  ·have c1':60≤st.parties.length:=by have:=of_decide_eq_true c1;omega
   have:=k H (Same.refl _)
   rw[decide_eq_true (Or.inl c1')]at this
   exact this
  ·have c1': ¬60≤st.parties.length:=fun z=>c1 (decide_eq_true (by omega))
   refine⟨_,rfl,h,dx,_,rfl,I.self,rfl,?_⟩
   refine⟨h,st,rfl,⟨dx,lb,lr,lp,bas,ras,pas,I⟩,fun H1 l1 as s1 n1 hl1 hp1=>?_⟩
   refine⟨l1,_,rfl,.inl (SqL.of hl1),_,_,rfl,rfl,?_⟩
   have e:decide ((5:Int)≤(((as.map V.ref).length :Nat):Int))=decide (60≤st.parties.length∨5≤(My.prom st).length):=decide_eq_decide.mpr (by
    rw[List.length_map,Paired.length hp1]
    omega)
   show Q (.bl (decide ((5:Int)≤(((as.map V.ref).length :Nat):Int)))) H1
   rw[e]
   exact k H1 s1
inductive HouseQ(t:Adr)(q:Addr)(H:Hp)(h lp:Addr)(s:Vbhoae.State):Prop
 | mk (dx lb lr bas ras pas) (_:HouseIs t H s h dx lb lr lp bas ras pas) (_:lb≠q∧lr≠q∧lp≠q∧ ∀a∈ras,a≠q)
theorem HouseQ.at{q:Addr}{H:Hp}{h lp:Addr}{s:Vbhoae.State}(x:HouseQ t q H h lp s):HouseAt t H h s:=by
 obtain⟨dx,lb,lr,bas,ras,pas,I,_⟩:=x
 exact⟨dx,lb,lr,lp,bas,ras,pas,I⟩
theorem HouseQ.same{q:Addr}{H H':Hp}{h lp:Addr}{s:Vbhoae.State}(sm:Same H H')(x:HouseQ t q H h lp s):HouseQ t q H' h lp s:=by
 obtain⟨dx,lb,lr,bas,ras,pas,I,r⟩:=x
 exact⟨dx,lb,lr,bas,ras,pas,I.same sm,r⟩
inductive CallQ(t:Adr)(q lp:Addr)(H:Hp)(a:Addr)(p:Int)(xs:List Int)(rs:List (List Int))(e:Nat):Prop
 | mk (dx ln lr ras) (_:H a=some (.ins t.c_Call dx [("number",.int p),("numbers",.ref ln),("rows",.ref lr),("place_behind",nV e)])) (_:H ln=some (.lst (xs.map V.int))) (_:H lr=some (.lst (ras.map V.ref))) (_:Paired (fun b r=>H b=some (.lst (r.map V.int))) ras rs) (_:(lr≠q∧lr≠lp)) (_: ∀b∈ras,b≠q∧b≠lp)
theorem step_at{s:Vbhoae.State}{c:Vbhoae.Call}(ho:s.opened=true∨Vbhoae.isOpens c=true):Vbhoae.step s c=match Vbhoae.does s c with | .error e=>(s,[e]) | .ok (t,l)=>(t,0::l):=by
 unfold Vbhoae.step
 rw[if_neg fun z=>by
  rcases ho with h | h
  ·rw[h]at z;cases z.1
  ·rw[h]at z;cases z.2]
 cases Vbhoae.does s c<;>rfl
theorem step_err{s:Vbhoae.State}{c:Vbhoae.Call}{e:Int}(ho:s.opened=true∨Vbhoae.isOpens c=true)(h:Vbhoae.does s c= .error e):Vbhoae.step s c=(s,[e]):=by
 rw[step_at ho,h]
theorem step_ok{s s':Vbhoae.State}{c:Vbhoae.Call}{l:List Int}(ho:s.opened=true∨Vbhoae.isOpens c=true)(h:Vbhoae.does s c= .ok (s',l)):Vbhoae.step s c=(s',0::l):=by
 rw[step_at ho,h]
abbrev Ends1(t:Adr)(q:Addr)(H:Hp)(h lp:Addr)(s:Vbhoae.State)(cl:Vbhoae.Call)(Q:VK):Prop:= ∀(H':Hp) (l:Addr),HouseQ t q H' h lp (Vbhoae.step s cl).1→Fr h lp H H'→H l=none→H' l=some (.lst ((Vbhoae.step s cl).2.map V.int))→Q (.ref l) H'
inductive spDo(t:Adr)(F:List Int→List (List Int)→Vbhoae.Call→Prop)(vs:List V)(H:Hp)(Q:VK)(_:XK):Prop
 | mk (h lp c q:Addr) (s:Vbhoae.State) (p:Int) (xs:List Int) (rs:List (List Int)) (e:Nat) (cl:Vbhoae.Call) (_:vs=[.ref h,.ref c]) (_:HouseQ t q H h lp s) (_:H q≠none) (_:My.Good s) (_:(s.opened=true∨Vbhoae.isOpens cl=true)) (_:CallQ t q lp H c p xs rs e) (_:F xs rs cl) (_:Ends1 t q H h lp s cl Q)
theorem Ends1.err{q:Addr}{H H1:Hp}{h lp l:Addr}{s:Vbhoae.State}{cl:Vbhoae.Call}{Q:VK}{e:Int}(k:Ends1 t q H h lp s cl Q)(hq:HouseQ t q H h lp s)(sm:Same H H1)(hl:H1 l=none)(hs:Vbhoae.step s cl=(s,[e])):Q (.ref l) (upd H1 l (.lst [V.int e])):=by
 have s2:Same H (upd H1 l (.lst [V.int e])):=sm.trans (Same.new hl)
 refine k _ l ?_ (Fr.of s2) (Same.none sm hl) ?_
 ·rw[hs]
  exact hq.same s2
 ·rw[hs]
  exact upd_same
theorem Ends1.told{q:Addr}{H H1:Hp}{h lp l:Addr}{s:Vbhoae.State}{cl:Vbhoae.Call}{Q:VK}{ns:List Int}(k:Ends1 t q H h lp s cl Q)(hq:HouseQ t q H h lp s)(sm:Same H H1)(hl:H l=none)(hn:H1 l=some (.lst (ns.map V.int)))(hs:Vbhoae.step s cl=(s,ns)):Q (.ref l) H1:=by
 refine k _ l ?_ (Fr.of sm) hl ?_
 ·rw[hs]
  exact hq.same sm
 ·rw[hs]
  exact hn
theorem open_facts{s:Vbhoae.State}(G:My.Good s)(ho:s.opened=true):(My.prom s).length ≤5∧(Vbhoae.blocks s.room).length ≤1000∧ ∀x∈My.prom s,1≤x.1.size:=by
 refine⟨by rw[←My.waiting_prom];exact G.five,My.blocks_few (G.room ho),fun x hx=>?_⟩
 exact(G.pty _ (My.mem_prom hx).1).size.1
theorem paired_lens{H:Hp}: ∀{as:List Addr} {rs:List (List Int)},Paired (fun b r=>H b=some (.lst (r.map V.int))) as rs→Paired (fun x n=> ∃ys:List V,SqL K H x ys∧ys.length=n) as (rs.map List.length)
 | _,_,.nil => .nil
 | _,_,.cons r q=> .cons ⟨_,SqL.of r,List.length_map ..⟩ (paired_lens q)
theorem paired_nats{H H1:Hp}: ∀{as:List Addr} {rs:List (List Int)},Paired (fun b r=>H b=some (.lst (r.map V.int))) as rs→(∀r∈rs,∀x∈r,0≤x)→Same H H1→Paired (RowAt H1) as (rs.map Vbhoae.nats)
 | _,_,.nil,_,_=> .nil
 | _,_,.cons r q,h,s=> .cons (by
   show H1 _=_
   rw[s _ _ r,nat_list (h _ (List.mem_cons_self ..))]
   rfl) (paired_nats q (fun x hx=>h x (List.mem_cons_of_mem _ hx)) s)
def isOpen(xs:List Int)(rs:List (List Int))(cl:Vbhoae.Call):Prop:= ∃(l c:Nat) (a b d:List Int),xs=[(l:Int),(c:Int)]∧rs=[a,b,d]∧cl= .opens l c a b d∧l≤3∧(∀r∈ [a,b,d],r.length≤8∧ ∀x∈r,0≤x)
theorem ok_open_house(T:Txt K mg t):FnOk P w K mg base CX0 6 t.f_open_house t.d_open_house ["house","call"] (spDo t isOpen):=by
 refine T.fu_open_house.ok sc_open_house (fun vs H Q E h=>?_) (fun cdv A outer s H vs Q E hr h=>?_)
 ·obtain⟨h,lp,c,q,s,p,xs,rs,e,cl,rfl,_⟩:=h
  rfl
 ·obtain⟨h,lp,c,q,st,p,xs,rs,e,cl,rfl,hQ,hqn,G,ho,⟨dc,ln,lr0,ras0,hc,hln,hlr,hrs,nr0,nrs0⟩,⟨l,cc,a,b,d,rfl,rfl,rfl,hl3,h8⟩,k⟩:=h
  obtain⟨dx,lb,lr,bas,ras,pas,I,nq1,nq2,nq3,nq4⟩:=id hQ
  obtain⟨k1,hk1⟩:=T.ct_MOST_TABLES
  refine⟨_,pss_cons (ps_if (pt_val (pe_fld (pv 0) rfl)) (pss_one (ps_ret (pe_lst (pa_cons (pe_un un_neg pe_int) pa_nil)))) pss_nil)
   (pss_cons (ps_if (PW.pt (pw_or (pt_not (pt_truth (pe_ix ix_list (pe_fld (pv 1) rfl) pe_int (fun _ _=>rfl)) (fun _=>rfl)))
     (pw_or1 (pt_cmpR op_gt (pe_call (ok_count_of_tables T) (hr.mono (by omega)) rfl T.mg_count_of_tables T.fu_count_of_tables.kp T.bi_count_of_tables .nil pass0 (pa_cons (pe_fld (pv 1) rfl) pa_nil)) (pe_glob (v:= .int 8) rfl hk1 ⟨_,rfl⟩) (nomark _)))))
    (pss_one (ps_ret (pe_lst (pa_cons (pe_un un_neg pe_int) pa_nil)))) pss_nil)
   (pss_cons (ps_expr (pe_meth (pv 0) T.cl_House T.me_House_begin (ok_begin T) (hr.mono (by omega)) T.bi_House_begin .nil pass0
    (pa_cons (pe_ix ix_list (pe_fld (pv 1) rfl) pe_int (fun _ _=>rfl)) (pa_cons (pe_ix ix_list (pe_fld (pv 1) rfl) pe_int (fun _ _=>rfl)) (pa_cons (pe_fld (pv 1) rfl) pa_nil)))))
   (pss_one (ps_ret (pe_lst (pa_cons pe_int pa_nil)))))),?_⟩
  refine⟨_,rfl,h,t.c_House,dx,_,_,rfl,I.self,T.cl_House,T.no_House_is_open,rfl,_,rfl,?_⟩
  cases hop:st.opened with
  | true=>
   refine iteT ⟨_,rfl,(by show 1≤sizeLine;decide),fun l1 hl1=>?_⟩
   exact k.err hQ (Same.refl _) hl1 (step_err ho (by show(if st.opened=true then _ else _)=_;rw[if_pos hop]))
  | false=>
   refine iteF ?_
   have hst:=G.shut hop
   cases hrs with
   | @cons ra _ ras1 _ ha hrs1=>
    have hdo:Vbhoae.does st (.opens l cc a b d)=if a=[]∨Vbhoae.TABLES<a.length+b.length+d.length then .error (-5)else .ok ({opened:=true,room:=⟨[Vbhoae.nats a,Vbhoae.nats b,Vbhoae.nats d],l⟩,clearing:=cc},[]):=by
     show(if st.opened=true then _ else _)=_
     rw[if_neg (by rw[hop];decide)]
    refine⟨_,rfl,c,t.c_Call,dc,_,_,rfl,hc,T.cl_Call,T.no_Call_rows,rfl,lr0,_,_,_,rfl,rfl,SqL.of hlr,atI_nat (j:=0) rfl,_,.inl ⟨_,SqL.of ha,rfl⟩,?_⟩
    have five: ∀H1,Same H H1→(a=[]∨Vbhoae.TABLES<a.length+b.length+d.length)→ ∀l1,H1 l1=none→Q (.ref l1) (upd H1 l1 (.lst [V.int (-5)])):=fun H1 sm hb l1 hl1=>
     k.err hQ sm hl1 (step_err ho (by rw[hdo,if_pos hb]))
    cases ea:(a.map V.int).isEmpty with
    | true=>
     refine iteT (iteT ⟨_,rfl,(by show 1≤sizeLine;decide),fun l1 hl1=>?_⟩)
     refine five H (Same.refl _) (.inl ?_) l1 hl1
     rw[List.isEmpty_iff]at ea
     exact List.map_eq_nil_iff.mp ea
    | false=>
     have hne:a≠ []:=fun z=>by rw[z]at ea;cases ea
     refine iteF ⟨_,rfl,c,t.c_Call,dc,_,_,rfl,hc,T.cl_Call,T.no_Call_rows,rfl,?_⟩
     have hrsA:Paired (fun x n=> ∃ys:List V,SqL K H x ys∧ys.length=n) (ra::ras1) [a.length,b.length,d.length]:=
      .cons ⟨_,SqL.of ha,List.length_map ..⟩ (paired_lens (rs:=[b,d]) hrs1)
     refine⟨lr0,ra::ras1,[a.length,b.length,d.length],rfl,SqL.of hlr,hrsA,(by show 3≤1000;decide),fun H1 s1=>?_⟩
     refine⟨_,_,rfl,rfl,_,rfl,?_⟩
     have es:[a.length,b.length,d.length].sum =a.length+b.length+d.length:=by simp[Nat.add_assoc]
     rw[es]
     refine ite2 (fun c1=>?_) (fun c1=>?_)
     ·refine⟨_,rfl,(by show 1≤sizeLine;decide),fun l1 hl1=>?_⟩
      refine five H1 s1 (.inr ?_) l1 hl1
      have:=of_decide_eq_true c1
      show 8<_
      omega
     ·have hle: ¬Vbhoae.TABLES<a.length+b.length+d.length:=fun z=>c1 (decide_eq_true (by
       have:8<a.length+b.length+d.length:=z
       omega))
      have I1:=I.same s1
      have hc1:=s1 _ _ hc
      have hln1:=s1 _ _ hln
      refine⟨_,rfl,h,dx,_,rfl,I1.self,rfl,_,rfl,c,t.c_Call,dc,_,_,rfl,hc1,T.cl_Call,T.no_Call_numbers,rfl,ln,_,_,_,rfl,rfl,SqL.of hln1,atI_nat (j:=0) rfl,_,rfl,c,t.c_Call,dc,_,_,rfl,hc1,T.cl_Call,T.no_Call_numbers,rfl,ln,_,_,_,rfl,rfl,SqL.of hln1,atI_nat (j:=1) rfl,_,rfl,c,t.c_Call,dc,_,_,rfl,hc1,T.cl_Call,T.no_Call_rows,rfl,?_⟩
      have hrsN:Paired (RowAt H1) (ra::ras1) [Vbhoae.nats a,Vbhoae.nats b,Vbhoae.nats d]:=by
       refine paired_nats (rs:=[a,b,d]) (.cons ha hrs1) (fun r hr=>(h8 r hr).2) s1
      refine⟨h,lp,lr0,st,⟨[Vbhoae.nats a,Vbhoae.nats b,Vbhoae.nats d],l⟩,cc,ra::ras1,rfl,⟨dx,lb,lr,bas,ras,pas,I1⟩,by rw[hst];rfl,s1 _ _ hlr,hrsN,nr0.2,fun x hx=>(nrs0 x hx).2,hl3,?_,(by show 3≤3;decide),fun H2 dx2 l2 as2 I2 n2 f2=>?_⟩
      ·intro row hrow
       have: ∀r∈ [a,b,d],(Vbhoae.nats r).length ≤8:=fun r hr=>by
        unfold Vbhoae.nats
        rw[List.length_map]
        exact(h8 r hr).1
       simp only[List.mem_cons,List.not_mem_nil,or_false]at hrow this
       rcases hrow with rfl | rfl | rfl
       ·exact this a (.inl rfl)
       ·exact this b (.inr (.inl rfl))
       ·exact this d (.inr (.inr rfl))
      ·refine⟨(by show 1≤sizeLine;decide),fun l3 hl3=>?_⟩
       have hok:Vbhoae.step st (.opens l cc a b d)=({st with opened:=true,room:=⟨[Vbhoae.nats a,Vbhoae.nats b,Vbhoae.nats d],l⟩,clearing:=cc},[0]):=by
        refine step_ok ho ?_
        rw[hdo,if_neg (fun z=>z.elim hne hle),hst]
        rfl
       have s3:Same H2 (upd H2 l3 (.lst [V.int 0])):=Same.new hl3
       refine k _ l3 ?_ (((Fr.of s1).trans f2).trans (Fr.of s3)) ?_ ?_
       ·rw[hok]
        refine⟨dx2,l2,lr0,as2,ra::ras1,[],I2.same s3,fun z=>hqn ?_,nr0.1,nq3,fun x hx=>(nrs0 x hx).1⟩
        rw[←z]
        exact Same.none s1 n2
       ·exact Same.none s1 (f2.2 _ hl3)
       ·rw[hok]
        exact upd_same
def isBook(xs:List Int)(_:List (List Int))(cl:Vbhoae.Call):Prop:= ∃n f m:Nat,xs=[(n:Int),(f:Int),(m:Int)]∧cl= .book n f m∧1≤n∧1≤m
theorem ok_book(T:Txt K mg t):FnOk P w K mg base CX0 13 t.f_book t.d_book ["house","call"] (spDo t isBook):=by
 refine T.fu_book.ok sc_book (fun vs H Q E h=>?_) (fun cdv A outer s H vs Q E hr h=>?_)
 ·obtain⟨h,lp,c,q,s,p,xs,rs,e,cl,rfl,_⟩:=h
  rfl
 ·obtain⟨h,lp,c,q,st,p,xs,rs,e,cl,rfl,hQ,hqn,G,ho,⟨dc,ln,lr0,ras0,hc,hln,hlr,hrs,nr0,nrs0⟩,⟨n,f,m,rfl,rfl,hn,hm⟩,k⟩:=h
  have hop:st.opened=true:=ho.elim id fun z=>by cases z
  obtain⟨h5,hbl,hsz⟩:=open_facts G hop
  obtain⟨dx,lb,lr,bas,ras,pas,I,nq1,nq2,nq3,nq4⟩:=id hQ
  have nd:=sc_book.nd
  refine⟨_,pss_cons (ps_set (i:=2) nd rfl (Or.inl rfl) (pe_meth (pv 0) T.cl_House T.me_House_party_to_promise (ok_party_to_promise T) (hr.mono (by omega)) T.bi_House_party_to_promise .nil pass0
    (pa_cons (pe_ix ix_list (pe_fld (pv 1) rfl) pe_int (fun _ _=>rfl)) (pa_cons (pe_ix ix_list (pe_fld (pv 1) rfl) pe_int (fun _ _=>rfl)) (pa_cons (pe_ix ix_list (pe_fld (pv 1) rfl) pe_int (fun _ _=>rfl)) pa_nil)))))
   (pss_cons (ps_set (i:=3) nd rfl (Or.inl rfl) (pe_meth0 (pv 0) T.cl_House T.me_House_promised (ok_promised T) (hr.mono (by omega)) T.bi_House_promised .nil pass0))
   (pss_cons (ps_if (pt_cmpR op_lt (pe_fld (pv 2) rfl) (pe_fld (pv 0) rfl) (nomark _)) (pss_one (ps_ret (pe_lst (pa_cons (pe_un un_neg pe_int) pa_nil)))) pss_nil)
   (pss_cons (ps_if (pt_val (pe_call (ok_is_full T) (hr.mono (by omega)) rfl T.mg_is_full T.fu_is_full.kp T.bi_is_full .nil pass0 (pa_cons (pv 0) pa_nil))) (pss_one (ps_ret (pe_lst (pa_cons (pe_un un_neg pe_int) pa_nil)))) pss_nil)
   (pss_cons (ps_if (pt_not (pt_val (pe_meth (pv 0) T.cl_House T.me_House_can_keep (ok_can_keep T) hr T.bi_House_can_keep .nil pass0 (pa_cons (pv 3) pa_nil)))) (pss_one (ps_ret (pe_lst (pa_cons (pe_un un_neg pe_int) pa_nil)))) pss_nil)
   (pss_cons (ps_if (pt_not (pt_val (pe_meth (pv 0) T.cl_House T.me_House_can_keep (ok_can_keep T) hr T.bi_House_can_keep .nil pass0 (pa_cons (pe_op op_cat (pv 3) (pe_lst (pa_cons (pv 2) pa_nil))) pa_nil)))) (pss_one (ps_ret (pe_lst (pa_cons (pe_un un_neg pe_int) pa_nil)))) pss_nil)
   (pss_cons (ps_expr (pe_bm PySem.F.plainAttrs_list PySem.F.slot_list_append PySem.F.type_list_append mt_append (pe_fld (pv 0) rfl) (pa_cons (pv 2) pa_nil)))
   (pss_one (ps_ret (pe_lst (pa_cons pe_int (pa_cons (pe_fld (pv 2) rfl) pa_nil))))))))))),?_⟩
  refine⟨_,rfl,h,dx,_,rfl,I.self,rfl,_,rfl,c,t.c_Call,dc,_,_,rfl,hc,T.cl_Call,T.no_Call_numbers,rfl,ln,_,_,_,rfl,rfl,SqL.of hln,atI_nat (j:=0) rfl,_,rfl,c,t.c_Call,dc,_,_,rfl,hc,T.cl_Call,T.no_Call_numbers,rfl,ln,_,_,_,rfl,rfl,SqL.of hln,atI_nat (j:=1) rfl,_,rfl,c,t.c_Call,dc,_,_,rfl,hc,T.cl_Call,T.no_Call_numbers,rfl,ln,_,_,_,rfl,rfl,SqL.of hln,atI_nat (j:=2) rfl,?_⟩
  refine⟨h,st,n,f,m,rfl,hQ.at,fun H1 a s1 n1 hp1=>?_⟩
  have I1:=I.same s1
  refine⟨_,rfl,h,dx,_,rfl,I1.self,rfl,?_⟩
  refine⟨h,st,rfl,⟨dx,lb,lr,lp,bas,ras,pas,I1⟩,fun H2 l2 as s2 n2 hl2 hP2=>?_⟩
  have s12:=s1.trans s2
  have I2:=I.same s12
  have hp2:=hp1.same s2
  obtain⟨da,bv,ha2,_⟩:=id hp2
  have hdo: ∀r,Vbhoae.does st (.book n f m)=r↔(if f<st.now then .error (-6)else if Vbhoae.PARTIES≤st.parties.length∨Vbhoae.WAITING≤Vbhoae.waitingCount st then .error (-4)else if Vbhoae.sound st=false then .error (-11)else if Vbhoae.sound (Vbhoae.withParty st (My.newP n f m))=false then .error (-9)else .ok (Vbhoae.withParty st (My.newP n f m),[Vbhoae.nat (st.parties.length+1)]))=r:=fun r=>Iff.rfl
  refine⟨_,rfl,a,t.c_Party,da,_,_,rfl,ha2,T.cl_Party,T.no_Party_time_from,rfl,_,rfl,h,t.c_House,dx,_,_,rfl,I2.self,T.cl_House,T.no_House_now,rfl,_,_,rfl,rfl,_,rfl,?_⟩
  refine ite2 (fun c1=>?_) (fun c1=>?_)
  ·refine⟨_,rfl,(by show 1≤sizeLine;decide),fun l1 hl1=>k.err hQ s12 hl1 (step_err ho ((hdo _).mpr ?_))⟩
   rw[if_pos]
   have:((f:Nat):Int)<((st.now:Nat):Int):=of_decide_eq_true c1
   omega
  ·have c1': ¬f<st.now:=fun z=>c1 (decide_eq_true (by
    show((f:Nat):Int)<((st.now:Nat):Int)
    omega))
   refine⟨_,rfl,h,st,rfl,⟨dx,lb,lr,lp,bas,ras,pas,I2⟩,fun H3 s3=>⟨_,rfl,?_⟩⟩
   have s13:=s12.trans s3
   refine ite2 (fun c2=>?_) (fun c2=>?_)
   ·refine⟨_,rfl,(by show 1≤sizeLine;decide),fun l1 hl1=>k.err hQ s13 hl1 (step_err ho ((hdo _).mpr ?_))⟩
    rw[if_neg c1',if_pos]
    have:=of_decide_eq_true c2
    rw[←My.waiting_prom]at this
    exact this
   ·have c2': ¬(Vbhoae.PARTIES≤st.parties.length∨Vbhoae.WAITING≤Vbhoae.waitingCount st):=fun z=>c2 (decide_eq_true (by
     rw[←My.waiting_prom]
     exact z))
    have hl60:st.parties.length<60:=Nat.lt_of_not_le fun z=>c2' (.inl z)
    have hw5:(My.prom st).length <5:=Nat.lt_of_not_le fun z=>c2' (.inr (by rw[My.waiting_prom];exact z))
    have I3:=I.same s13
    refine⟨_,rfl,h,dx,_,rfl,I3.self,rfl,_,rfl,?_⟩
    refine⟨h,l2,st,as,My.prom st,rfl,⟨dx,lb,lr,lp,bas,ras,pas,I3⟩,SqL.of (s3 _ _ hl2),Paired.mapP hP2 fun _ _ z=>z.same s3,hbl,hsz,by omega,fun H4 b s4 hb=>⟨_,rfl,?_⟩⟩
    have s14:=s13.trans s4
    have hb':b=true↔Vbhoae.sound st=true:=hb.trans (My.sound_prom G).symm
    cases b with
    | false=>
     refine iteT ⟨_,rfl,(by show 1≤sizeLine;decide),fun l1 hl1=>k.err hQ s14 hl1 (step_err ho ((hdo _).mpr ?_))⟩
     rw[if_neg c1',if_neg c2',if_pos]
     cases hs:Vbhoae.sound st with
     | false=>rfl
     | true=>cases hb'.mpr hs
    | true=>
     have hs1: ¬Vbhoae.sound st=false:=by rw[hb'.mp rfl];decide
     refine iteF ?_
     have I4:=I.same s14
     have s24:=s3.trans s4
     have hp4:=hp2.same s24
     refine⟨_,rfl,h,dx,_,rfl,I4.self,rfl,_,rfl,_,rfl,(by show 1≤sizeLine;decide),fun p5 hp5=>?_⟩
     have s5:Same H4 (upd H4 p5 (.lst [V.ref a])):=Same.new hp5
     refine⟨l2,p5,_,_,rfl,rfl,s5 _ _ (s24 _ _ hl2),upd_same,?_,fun p6 hp6=>?_⟩
     ·rw[List.length_map,Paired.length hP2,sizeLine_eq]
      show(My.prom st).length +1≤_
      omega
     have ea:as.map V.ref++[V.ref a]=(as++[a]).map V.ref:=by rw[List.map_append];rfl
     rw[ea]
     have s6:Same (upd H4 p5 (.lst [V.ref a])) (upd (upd H4 p5 (.lst [V.ref a])) p6 (.lst ((as++[a]).map V.ref))):=Same.new hp6
     have hp6':upd (upd H4 p5 (.lst [V.ref a])) p6 (.lst ((as++[a]).map V.ref)) p6=some (.lst ((as++[a]).map V.ref)):=upd_same
     generalize upd (upd H4 p5 (.lst [V.ref a])) p6 (.lst ((as++[a]).map V.ref))=H6 at s6 hp6' ⊢
     have s46:=s5.trans s6
     have s26:=s24.trans s46
     refine⟨h,p6,st,as++[a],My.prom st++[(My.newP n f m,st.parties.length+1)],rfl,⟨dx,lb,lr,lp,bas,ras,pas,I4.same s46⟩,SqL.of hp6',paired_snoc (hp2.same s26) (Paired.mapP hP2 fun _ _ z=>z.same s26),hbl,?_,?_,fun H7 b2 s7 hb2=>⟨_,rfl,?_⟩⟩
     ·intro x hx
      rcases List.mem_append.mp hx with hx | hx
      ·exact hsz x hx
      ·rw[List.mem_singleton.mp hx]
       exact hn
     ·rw[List.length_append]
      show _+1≤6
      omega
     ·have s17:=s14.trans (s46.trans s7)
      have hb2':b2=true↔Vbhoae.sound (Vbhoae.withParty st (My.newP n f m))=true:=by
       rw[hb2,My.sound_iff,My.wants_add G (p:=My.newP n f m) rfl (by show st.now<f+m;omega),List.map_append]
       exact Iff.rfl
      cases b2 with
      | false=>
       refine iteT ⟨_,rfl,(by show 1≤sizeLine;decide),fun l1 hl1=>k.err hQ s17 hl1 (step_err ho ((hdo _).mpr ?_))⟩
       rw[if_neg c1',if_neg c2',if_neg hs1,if_pos]
       cases hs:Vbhoae.sound (Vbhoae.withParty st (My.newP n f m))with
       | false=>rfl
       | true=>cases hb2'.mpr hs
      | true=>
       have hs2: ¬Vbhoae.sound (Vbhoae.withParty st (My.newP n f m))=false:=by rw[hb2'.mp rfl];decide
       refine iteF ?_
       have I7:=I.same s17
       have hp7:=hp2.same (s26.trans s7)
       have hok:Vbhoae.step st (.book n f m)=(Vbhoae.withParty st (My.newP n f m),[0,Vbhoae.nat (st.parties.length+1)]):=step_ok ho ((hdo _).mpr (by rw[if_neg c1',if_neg c2',if_neg hs1,if_neg hs2]))
       refine⟨_,rfl,h,t.c_House,dx,_,_,rfl,I7.self,T.cl_House,T.no_House_parties,rfl,.inl ⟨rfl,_,SqL.of I7.lp⟩,_,rfl,lp,_,_,rfl,rfl,I7.lp,?_,?_⟩
       ·rw[List.length_map,pas_len I]
        exact small1000 (by omega)
       have ep:pas.map V.ref++[V.ref a]=(pas++[a]).map V.ref:=by rw[List.map_append];rfl
       rw[ep]
       have I8:=I7.add hp7 hl60
       have f8:Fr h lp H (upd H7 lp (.lst ((pas++[a]).map V.ref))):=(Fr.of s17).trans Fr.add
       obtain⟨d7,bv7,ha7,_⟩:=id hp7
       have ha8:upd H7 lp (.lst ((pas++[a]).map V.ref)) a=some (.ins t.c_Party d7 (ptyF (st.parties.length+1) (My.newP n f m) bv7)):=by
        rw[upd_ne (ne_of ha7 I7.lp (by intro z;cases z))]
        exact ha7
       generalize upd H7 lp (.lst ((pas++[a]).map V.ref))=H8 at I8 f8 ha8 ⊢
       refine⟨_,rfl,a,t.c_Party,d7,_,_,rfl,ha8,T.cl_Party,T.no_Party_number,rfl,(by show 2≤sizeLine;decide),fun l9 hl9=>?_⟩
       have s9:Same H8 (upd H8 l9 (.lst [V.int 0,nV (st.parties.length+1)])):=Same.new hl9
       refine k _ l9 ?_ (f8.trans (Fr.of s9)) (f8.2 _ hl9) ?_
       ·rw[hok]
        exact⟨dx,lb,lr,bas,ras,pas++[a],I8.same s9,nq1,nq2,nq3,nq4⟩
       ·rw[hok]
        exact upd_same
def isOne(C:Nat→Vbhoae.Call)(xs:List Int)(_:List (List Int))(cl:Vbhoae.Call):Prop:= ∃n:Nat,xs=[(n:Int)]∧cl=C n∧1≤n
theorem refusal_zero{s:Vbhoae.State}{n g:Nat}(h1:1≤n)(h:refusal s n g=0): ∃x,s.parties[n-1]? =some x∧Vbhoae.partyOf s n=some x∧x.stage=g:=by
 unfold refusal at h
 rw[partyOf_at h1]at h ⊢
 cases e:s.parties[n-1]? with
 | none=>rw[e]at h;cases h
 | some x=>
  rw[e]at h
  dsimp only at h
  by_cases hg:x.stage=g
  ·exact⟨x,rfl,rfl,hg⟩
  ·rw[if_pos hg]at h
   cases h
theorem refusal_bad{s:Vbhoae.State}{n g:Nat}(h:refusal s n g≠0):(Vbhoae.partyOf s n=none∧refusal s n g= -7)∨ ∃x,Vbhoae.partyOf s n=some x∧x.stage≠g∧refusal s n g= -8:=by
 unfold refusal at h ⊢
 cases e:Vbhoae.partyOf s n with
 | none=>exact .inl ⟨rfl,rfl⟩
 | some x=>
  rw[e]at h
  dsimp only at h ⊢
  by_cases hg:x.stage=g
  ·rw[if_neg fun z=>z hg]at h
   exact absurd rfl h
  ·exact .inr ⟨x,rfl,hg,if_pos hg⟩
theorem ok_cancel(T:Txt K mg t):FnOk P w K mg base CX0 3 t.f_cancel t.d_cancel ["house","call"] (spDo t (isOne .cancel)):=by
 refine T.fu_cancel.ok sc_cancel (fun vs H Q E h=>?_) (fun cdv A outer s H vs Q E hr h=>?_)
 ·obtain⟨h,lp,c,q,s,p,xs,rs,e,cl,rfl,_⟩:=h
  rfl
 ·obtain⟨h,lp,c,q,st,p,xs,rs,e,cl,rfl,hQ,hqn,G,ho,⟨dc,ln,lr0,ras0,hc,hln,hlr,hrs,nr0,nrs0⟩,⟨n,rfl,rfl,hn⟩,k⟩:=h
  obtain⟨dx,lb,lr,bas,ras,pas,I,nq1,nq2,nq3,nq4⟩:=id hQ
  have nd:=sc_cancel.nd
  obtain⟨k0,hk0⟩:=T.ct_PROMISED
  obtain⟨k3,hk3⟩:=T.ct_CALLED_OFF
  refine⟨_,pss_cons (ps_set (i:=2) nd rfl (Or.inl rfl) (pe_call (ok_party_refusal T) hr rfl T.mg_party_refusal T.fu_party_refusal.kp T.bi_party_refusal .nil pass0
    (pa_cons (pv 0) (pa_cons (pe_ix ix_list (pe_fld (pv 1) rfl) pe_int (fun _ _=>rfl)) (pa_cons (pe_glob (v:= .int 0) rfl hk0 ⟨_,rfl⟩) pa_nil)))))
   (pss_cons (ps_if (pt_truth (pv 2) (fun _=>rfl)) (pss_one (ps_ret (pe_lst (pa_cons (pv 2) pa_nil)))) pss_nil)
   (pss_cons (ps_set (i:=3) nd rfl (Or.inl rfl) (pe_meth (pv 0) T.cl_House T.me_House_party_of (ok_party_of T) (hr.mono (by omega)) T.bi_House_party_of .nil pass0 (pa_cons (pe_ix ix_list (pe_fld (pv 1) rfl) pe_int (fun _ _=>rfl)) pa_nil)))
   (pss_cons (ps_fld (pv 3) (pe_glob (v:= .int 3) rfl hk3 ⟨_,rfl⟩) rfl)
   (pss_one (ps_ret (pe_lst (pa_cons pe_int pa_nil))))))),?_⟩
  refine⟨_,rfl,_,rfl,c,t.c_Call,dc,_,_,rfl,hc,T.cl_Call,T.no_Call_numbers,rfl,ln,_,_,_,rfl,rfl,SqL.of hln,atI_nat (j:=0) rfl,?_⟩
  refine⟨h,st,n,0,rfl,hQ.at,hn,?_⟩
  refine⟨_,rfl,_,rfl,?_⟩
  by_cases hz:refusal st n 0=0
  ·obtain⟨x,hx,hpx,hx0⟩:=refusal_zero hn hz
   have eb:(refusal st n 0 != 0)=false:=by rw[hz];rfl
   show if (refusal st n 0 != 0)=true then _ else _
   rw[eb]
   refine iteF ?_
   have hlt:n-1<pas.length:=by
    rw[pas_len I]
    exact(List.getElem?_eq_some_iff.mp hx).1
   have ha:pas[n-1]? =some (pas[n-1]):=List.getElem?_eq_getElem hlt
   generalize pas[n-1]=a at ha
   obtain⟨⟨p,no⟩,hp,dp,bv,h1,h2⟩:=paired_at I.ps ha
   obtain⟨hp1,hp2⟩:=zip_at hp
   dsimp only at hp1 hp2 h1 h2
   rw[hx]at hp1
   cases hp1
   subst hp2
   refine⟨_,rfl,h,dx,_,rfl,I.self,rfl,_,rfl,c,t.c_Call,dc,_,_,rfl,hc,T.cl_Call,T.no_Call_numbers,rfl,ln,_,_,_,rfl,rfl,SqL.of hln,atI_nat (j:=0) rfl,?_⟩
   refine⟨h,st,n-1,congrArg (fun k:Nat=>[V.ref h,nV k]) (show n=n-1+1 by omega),dx,lb,lr,lp,bas,ras,pas,a,I,ha,?_⟩
   refine⟨_,rfl,a,t.c_Party,dp,_,rfl,h1,T.cl_Party,T.no_Party_stage,(by show 6<1000;decide),?_⟩
   have J:=I.put (g:=fun y=>{y with stage:=3}) (bv':=bv) ha hx h1 (by
    rcases h2 with ⟨b1,_⟩ | ⟨_,b2⟩
    ·rcases b1 with b1 | b1<;>omega
    ·exact .inr ⟨(by intro z;rcases z with z | z<;>cases z),b2⟩)
   have f1:Fr h lp H (upd H a (.ins t.c_Party dp (ptyF (n-1+1) {x with stage:=3} bv))):=Fr.put h1 ⟨_,_,_,_,_,rfl⟩
   have eN:n-1+1=n:=by omega
   have hok:Vbhoae.step st (.cancel n)=(Vbhoae.setParty st n fun y=>{y with stage:=3},[0]):=step_ok ho (by
    show(match Vbhoae.partyOf st n with | none=>_ | some x=>_)=_
    rw[hpx]
    show(if x.stage≠0 then _ else _)=_
    rw[if_neg fun z=>z hx0])
   refine⟨(by show 1≤sizeLine;decide),fun l9 hl9=>?_⟩
   have s9:Same (upd H a (.ins t.c_Party dp (ptyF (n-1+1) {x with stage:=3} bv))) (upd (upd H a (.ins t.c_Party dp (ptyF (n-1+1) {x with stage:=3} bv))) l9 (.lst [V.int 0])):=Same.new hl9
   refine k _ l9 ?_ (f1.trans (Fr.of s9)) (f1.2 _ hl9) ?_
   ·rw[hok]
    rw[show Vbhoae.setParty st n (fun y=>{y with stage:=3})=Vbhoae.setParty st (n-1+1) (fun y=>{y with stage:=3}) by rw[eN]]
    exact⟨dx,lb,lr,bas,ras,pas,J.same s9,nq1,nq2,nq3,nq4⟩
   ·rw[hok]
    exact upd_same
  ·have eb:(refusal st n 0 != 0)=true:=bne_iff_ne.mpr hz
   show if (refusal st n 0 != 0)=true then _ else _
   rw[eb]
   refine iteT ⟨_,rfl,(by show 1≤sizeLine;decide),fun l1 hl1=>k.err hQ (Same.refl _) hl1 (step_err ho ?_)⟩
   rcases refusal_bad hz with ⟨e1,e2⟩ | ⟨x,e1,e2,e3⟩
   ·show(match Vbhoae.partyOf st n with | none=>_ | some x=>_)=_
    rw[e1,e2]
   ·show(match Vbhoae.partyOf st n with | none=>_ | some x=>_)=_
    rw[e1,e3]
    show(if x.stage≠0 then _ else _)=_
    rw[if_pos e2]
theorem party_there{H:Hp}{s:Vbhoae.State}{h dx lb lr lp:Addr}{bas ras pas:List Addr}{n:Nat}{x:Vbhoae.Party}(I:HouseIs t H s h dx lb lr lp bas ras pas)(hx:s.parties[n-1]? =some x): ∃a dp bv,pas[n-1]? =some a∧H a=some (.ins t.c_Party dp (ptyF (n-1+1) x bv))∧BvAt t H s.room x bv:=by
 have hlt:n-1<pas.length:=by
  rw[pas_len I]
  exact(List.getElem?_eq_some_iff.mp hx).1
 have ha:pas[n-1]? =some (pas[n-1]):=List.getElem?_eq_getElem hlt
 obtain⟨⟨p,no⟩,hp,dp,bv,h1,h2⟩:=paired_at I.ps ha
 obtain⟨hp1,hp2⟩:=zip_at hp
 dsimp only at hp1 hp2 h1 h2
 rw[hx]at hp1
 cases hp1
 subst hp2
 exact⟨_,dp,bv,ha,h1,h2⟩
theorem set_at{s:Vbhoae.State}{n:Nat}{g:Vbhoae.Party→Vbhoae.Party}(hn:1≤n):Vbhoae.setParty s n g=Vbhoae.setParty s (n-1+1) g:=by rw[show n-1+1=n by omega]
theorem bad_does{s:Vbhoae.State}{n g:Nat}{A:Vbhoae.Party→Vbhoae.Res}(h:refusal s n g≠0):(match Vbhoae.partyOf s n with | none=>(.error (-7):Vbhoae.Res) | some x=>if x.stage≠g then .error (-8)else A x)= .error (refusal s n g):=by
 rcases refusal_bad h with ⟨e1,e2⟩ | ⟨x,e1,e2,e3⟩
 ·rw[e1,e2]
 ·rw[e1,e3]
  show(if x.stage≠g then _ else _)=_
  rw[if_pos e2]
theorem good_does{s:Vbhoae.State}{n g:Nat}{x:Vbhoae.Party}{A:Vbhoae.Party→Vbhoae.Res}(h:Vbhoae.partyOf s n=some x)(hg:x.stage=g):(match Vbhoae.partyOf s n with | none=>(.error (-7):Vbhoae.Res) | some x=>if x.stage≠g then .error (-8)else A x)=A x:=by
 rw[h]
 show(if x.stage≠g then _ else _)=_
 rw[if_neg fun z=>z hg]
theorem ok_leave(T:Txt K mg t):FnOk P w K mg base CX0 3 t.f_leave t.d_leave ["house","call"] (spDo t (isOne .leave)):=by
 refine T.fu_leave.ok sc_leave (fun vs H Q E h=>?_) (fun cdv A outer s H vs Q E hr h=>?_)
 ·obtain⟨h,lp,c,q,s,p,xs,rs,e,cl,rfl,_⟩:=h
  rfl
 ·obtain⟨h,lp,c,q,st,p,xs,rs,e,cl,rfl,hQ,hqn,G,ho,⟨dc,ln,lr0,ras0,hc,hln,hlr,hrs,nr0,nrs0⟩,⟨n,rfl,rfl,hn⟩,k⟩:=h
  obtain⟨dx,lb,lr,bas,ras,pas,I,nq1,nq2,nq3,nq4⟩:=id hQ
  have nd:=sc_leave.nd
  obtain⟨k0,hk0⟩:=T.ct_AT_A_TABLE
  obtain⟨k3,hk3⟩:=T.ct_LEFT
  refine⟨_,pss_cons (ps_set (i:=2) nd rfl (Or.inl rfl) (pe_call (ok_party_refusal T) hr rfl T.mg_party_refusal T.fu_party_refusal.kp T.bi_party_refusal .nil pass0
    (pa_cons (pv 0) (pa_cons (pe_ix ix_list (pe_fld (pv 1) rfl) pe_int (fun _ _=>rfl)) (pa_cons (pe_glob (v:= .int 1) rfl hk0 ⟨_,rfl⟩) pa_nil)))))
   (pss_cons (ps_if (pt_truth (pv 2) (fun _=>rfl)) (pss_one (ps_ret (pe_lst (pa_cons (pv 2) pa_nil)))) pss_nil)
   (pss_cons (ps_set (i:=3) nd rfl (Or.inl rfl) (pe_meth (pv 0) T.cl_House T.me_House_party_of (ok_party_of T) (hr.mono (by omega)) T.bi_House_party_of .nil pass0 (pa_cons (pe_ix ix_list (pe_fld (pv 1) rfl) pe_int (fun _ _=>rfl)) pa_nil)))
   (pss_cons (ps_fld (pv 3) (pe_glob (v:= .int 2) rfl hk3 ⟨_,rfl⟩) rfl)
   (pss_cons (ps_fld (pv 3) (pe_fld (pv 0) rfl) rfl)
   (pss_one (ps_ret (pe_lst (pa_cons pe_int pa_nil)))))))),?_⟩
  refine⟨_,rfl,_,rfl,c,t.c_Call,dc,_,_,rfl,hc,T.cl_Call,T.no_Call_numbers,rfl,ln,_,_,_,rfl,rfl,SqL.of hln,atI_nat (j:=0) rfl,?_⟩
  refine⟨h,st,n,1,rfl,hQ.at,hn,?_⟩
  refine⟨_,rfl,_,rfl,?_⟩
  show if (refusal st n 1 != 0)=true then _ else _
  by_cases hz:refusal st n 1=0
  ·obtain⟨x,hx,hpx,hx0⟩:=refusal_zero hn hz
   have eb:(refusal st n 1 != 0)=false:=by rw[hz];rfl
   rw[eb]
   refine iteF ?_
   obtain⟨a,dp,bv,ha,h1,h2⟩:=party_there I hx
   refine⟨_,rfl,h,dx,_,rfl,I.self,rfl,_,rfl,c,t.c_Call,dc,_,_,rfl,hc,T.cl_Call,T.no_Call_numbers,rfl,ln,_,_,_,rfl,rfl,SqL.of hln,atI_nat (j:=0) rfl,?_⟩
   refine⟨h,st,n-1,congrArg (fun k:Nat=>[V.ref h,nV k]) (show n=n-1+1 by omega),dx,lb,lr,lp,bas,ras,pas,a,I,ha,?_⟩
   refine⟨_,rfl,a,t.c_Party,dp,_,rfl,h1,T.cl_Party,T.no_Party_stage,(by show 6<1000;decide),?_⟩
   have nah:h≠a:=Ne.symm (ne_of h1 I.self pty_house)
   refine⟨_,rfl,h,t.c_House,dx,_,_,rfl,by rw[upd_ne nah];exact I.self,T.cl_House,T.no_House_now,rfl,_,rfl,a,t.c_Party,dp,_,rfl,upd_same,T.cl_Party,T.no_Party_time_to,(by show 6<1000;decide),?_⟩
   rw[upd_upd]
   have J:=I.put (g:=fun y=>{y with stage:=2,to_:=st.now}) (bv':=bv) ha hx h1 (by
    rcases h2 with ⟨_,c,b2,b3⟩ | ⟨b1,_⟩
    ·exact .inl ⟨.inr rfl,c,b2,b3⟩
    ·exact absurd (.inl hx0) b1)
   have f1:Fr h lp H (upd H a (.ins t.c_Party dp (ptyF (n-1+1) {x with stage:=2,to_:=st.now} bv))):=Fr.put h1 ⟨_,_,_,_,_,rfl⟩
   have hok:Vbhoae.step st (.leave n)=(Vbhoae.setParty st n fun y=>{y with stage:=2,to_:=st.now},[0]):=step_ok ho (good_does hpx hx0)
   refine⟨(by show 1≤sizeLine;decide),fun l9 hl9=>?_⟩
   have s9:Same (upd H a (.ins t.c_Party dp (ptyF (n-1+1) {x with stage:=2,to_:=st.now} bv))) (upd (upd H a (.ins t.c_Party dp (ptyF (n-1+1) {x with stage:=2,to_:=st.now} bv))) l9 (.lst [V.int 0])):=Same.new hl9
   refine k _ l9 ?_ (f1.trans (Fr.of s9)) (f1.2 _ hl9) ?_
   ·rw[hok,set_at hn]
    exact⟨dx,lb,lr,bas,ras,pas,J.same s9,nq1,nq2,nq3,nq4⟩
   ·rw[hok]
    exact upd_same
  ·have eb:(refusal st n 1 != 0)=true:=bne_iff_ne.mpr hz
   rw[eb]
   refine iteT ⟨_,rfl,(by show 1≤sizeLine;decide),fun l1 hl1=>k.err hQ (Same.refl _) hl1 (step_err ho (bad_does hz))⟩
def isStay(xs:List Int)(_:List (List Int))(cl:Vbhoae.Call):Prop:= ∃n m:Nat,xs=[(n:Int),(m:Int)]∧cl= .stay n m∧1≤n
theorem ok_stay(T:Txt K mg t):FnOk P w K mg base CX0 13 t.f_stay t.d_stay ["house","call"] (spDo t isStay):=by
 refine T.fu_stay.ok sc_stay (fun vs H Q E h=>?_) (fun cdv A outer s H vs Q E hr h=>?_)
 ·obtain⟨h,lp,c,q,s,p,xs,rs,e,cl,rfl,_⟩:=h
  rfl
 ·obtain⟨h,lp,c,q,st,p,xs,rs,e,cl,rfl,hQ,hqn,G,ho,⟨dc,ln,lr0,ras0,hc,hln,hlr,hrs,nr0,nrs0⟩,⟨n,m,rfl,rfl,hn⟩,k⟩:=h
  have hop:st.opened=true:=ho.elim id fun z=>by cases z
  obtain⟨dx,lb,lr,bas,ras,pas,I,nq1,nq2,nq3,nq4⟩:=id hQ
  have nd:=sc_stay.nd
  obtain⟨k0,hk0⟩:=T.ct_AT_A_TABLE
  refine⟨_,pss_cons (ps_set (i:=2) nd rfl (Or.inl rfl) (pe_call (ok_party_refusal T) (hr.mono (by omega)) rfl T.mg_party_refusal T.fu_party_refusal.kp T.bi_party_refusal .nil pass0
    (pa_cons (pv 0) (pa_cons (pe_ix ix_list (pe_fld (pv 1) rfl) pe_int (fun _ _=>rfl)) (pa_cons (pe_glob (v:= .int 1) rfl hk0 ⟨_,rfl⟩) pa_nil)))))
   (pss_cons (ps_if (pt_truth (pv 2) (fun _=>rfl)) (pss_one (ps_ret (pe_lst (pa_cons (pv 2) pa_nil)))) pss_nil)
   (pss_cons (ps_set (i:=3) nd rfl (Or.inl rfl) (pe_meth (pv 0) T.cl_House T.me_House_party_of (ok_party_of T) (hr.mono (by omega)) T.bi_House_party_of .nil pass0 (pa_cons (pe_ix ix_list (pe_fld (pv 1) rfl) pe_int (fun _ _=>rfl)) pa_nil)))
   (pss_cons (ps_fldaug (pv 3) (pe_ix ix_list (pe_fld (pv 1) rfl) pe_int (fun _ _=>rfl)) in_add)
   (pss_one (ps_ret (pe_lst (pa_cons pe_int (pa_cons (pe_callB call_len_seq rfl T.bn_len PySem.boot_len (pa_cons (pe_meth0 (pv 0) T.cl_House T.me_House_in_trouble (ok_in_trouble T) hr T.bi_House_in_trouble .nil pass0) pa_nil)) pa_nil)))))))),?_⟩
  refine⟨_,rfl,_,rfl,c,t.c_Call,dc,_,_,rfl,hc,T.cl_Call,T.no_Call_numbers,rfl,ln,_,_,_,rfl,rfl,SqL.of hln,atI_nat (j:=0) rfl,?_⟩
  refine⟨h,st,n,1,rfl,hQ.at,hn,?_⟩
  refine⟨_,rfl,_,rfl,?_⟩
  show if (refusal st n 1 != 0)=true then _ else _
  by_cases hz:refusal st n 1=0
  ·obtain⟨x,hx,hpx,hx0⟩:=refusal_zero hn hz
   have eb:(refusal st n 1 != 0)=false:=by rw[hz];rfl
   rw[eb]
   refine iteF ?_
   obtain⟨a,dp,bv,ha,h1,h2⟩:=party_there I hx
   refine⟨_,rfl,h,dx,_,rfl,I.self,rfl,_,rfl,c,t.c_Call,dc,_,_,rfl,hc,T.cl_Call,T.no_Call_numbers,rfl,ln,_,_,_,rfl,rfl,SqL.of hln,atI_nat (j:=0) rfl,?_⟩
   refine⟨h,st,n-1,congrArg (fun k:Nat=>[V.ref h,nV k]) (show n=n-1+1 by omega),dx,lb,lr,lp,bas,ras,pas,a,I,ha,?_⟩
   refine⟨_,rfl,a,t.c_Party,dp,_,_,rfl,h1,T.cl_Party,T.no_Party_time_to,rfl,_,rfl,c,t.c_Call,dc,_,_,rfl,hc,T.cl_Call,T.no_Call_numbers,rfl,ln,_,_,_,rfl,rfl,SqL.of hln,atI_nat (j:=1) rfl,_,_,rfl,rfl,dp,_,h1,(by show 6<1000;decide),?_⟩
   have en:((x.to_:Nat):Int)+((m:Nat):Int)=((x.to_+m:Nat):Int):=by omega
   rw[en]
   have J:=I.put (g:=fun y=>{y with to_:=y.to_+m}) (bv':=bv) ha hx h1 h2
   have f1:Fr h lp H (upd H a (.ins t.c_Party dp (ptyF (n-1+1) {x with to_:=x.to_+m} bv))):=Fr.put h1 ⟨_,_,_,_,_,rfl⟩
   have e0:upd H a (.ins t.c_Party dp (putF "time_to" (V.int ((x.to_+m:Nat):Int)) (ptyF (n-1+1) x bv)))=upd H a (.ins t.c_Party dp (ptyF (n-1+1) {x with to_:=x.to_+m} bv)):=rfl
   rw[e0]
   generalize upd H a (.ins t.c_Party dp (ptyF (n-1+1) {x with to_:=x.to_+m} bv))=H1 at J f1 ⊢
   rw[←set_at hn]at J
   have hdo:Vbhoae.does st (.stay n m)= .ok (Vbhoae.setParty st n fun y=>{y with to_:=y.to_+m},[Vbhoae.nat (Vbhoae.trouble (Vbhoae.setParty st n fun y=>{y with to_:=y.to_+m})).length]):=good_does hpx hx0
   have G1:My.Good (Vbhoae.setParty st n fun y=>{y with to_:=y.to_+m}):=My.does_good G ho True.intro hdo
   have hok:=step_ok ho hdo
   have hop1:(Vbhoae.setParty st n fun y=>{y with to_:=y.to_+m}).opened =true:=hop
   generalize (Vbhoae.setParty st n fun y=>{y with to_:=y.to_+m})=s1 at J G1 hok hdo hop1
   obtain⟨h5,hbl,hsz⟩:=open_facts G1 hop1
   refine⟨_,rfl,h,dx,_,rfl,J.self,rfl,?_⟩
   refine⟨h,s1,rfl,⟨dx,lb,lr,lp,bas,ras,pas,J⟩,h5,hbl,hsz,fun H2 l2 as2 i places s2 n2 hl2 hP2 e1 e2 e3=>?_⟩
   refine⟨l2,_,rfl,.inl (SqL.of hl2),(by show 2≤sizeLine;decide),fun l9 hl9=>?_⟩
   have el:(((as2.map V.ref).length :Nat):Int)=Vbhoae.nat (Vbhoae.trouble s1).length :=by
    rw[List.length_map,Paired.length hP2,My.trouble_len G1 e1 e2 e3]
    rfl
   rw[el]
   have s9:Same H2 (upd H2 l9 (.lst [V.int 0,V.int (Vbhoae.nat (Vbhoae.trouble s1).length)])):=Same.new hl9
   refine k _ l9 ?_ (f1.trans (Fr.of (s2.trans s9))) (f1.2 _ (Same.none s2 hl9)) ?_
   ·rw[hok]
    exact⟨dx,lb,lr,bas,ras,pas,J.same (s2.trans s9),nq1,nq2,nq3,nq4⟩
   ·rw[hok]
    exact upd_same
  ·have eb:(refusal st n 1 != 0)=true:=bne_iff_ne.mpr hz
   rw[eb]
   refine iteT ⟨_,rfl,(by show 1≤sizeLine;decide),fun l1 hl1=>k.err hQ (Same.refl _) hl1 (step_err ho (bad_does hz))⟩
def isPass(xs:List Int)(_:List (List Int))(cl:Vbhoae.Call):Prop:= ∃m:Nat,xs=[(m:Int)]∧cl= .pass m
theorem ok_pass_time(T:Txt K mg t):FnOk P w K mg base CX0 2 t.f_pass_time t.d_pass_time ["house","call"] (spDo t isPass):=by
 refine T.fu_pass_time.ok sc_pass_time (fun vs H Q E h=>?_) (fun cdv A outer s H vs Q E hr h=>?_)
 ·obtain⟨h,lp,c,q,s,p,xs,rs,e,cl,rfl,_⟩:=h
  rfl
 ·obtain⟨h,lp,c,q,st,p,xs,rs,e,cl,rfl,hQ,hqn,G,ho,⟨dc,ln,lr0,ras0,hc,hln,hlr,hrs,nr0,nrs0⟩,⟨m,rfl,rfl⟩,k⟩:=h
  obtain⟨dx,lb,lr,bas,ras,pas,I,nq1,nq2,nq3,nq4⟩:=id hQ
  obtain⟨k1,hk1⟩:=T.ct_LAST_MINUTE
  refine⟨_,pss_cons (ps_if (pt_cmpR op_gt (pe_op op_add (pe_fld (pv 0) rfl) (pe_ix ix_list (pe_fld (pv 1) rfl) pe_int (fun _ _=>rfl))) (pe_glob (v:= .int 100000) rfl hk1 ⟨_,rfl⟩) (nomark _)) (pss_one (ps_ret (pe_lst (pa_cons (pe_un un_neg pe_int) pa_nil)))) pss_nil)
   (pss_cons (ps_expr (pe_meth (pv 0) T.cl_House T.me_House_go_on (ok_go_on T) hr T.bi_House_go_on .nil pass0 (pa_cons (pe_ix ix_list (pe_fld (pv 1) rfl) pe_int (fun _ _=>rfl)) pa_nil)))
   (pss_one (ps_ret (pe_lst (pa_cons pe_int (pa_cons (pe_fld (pv 0) rfl) pa_nil)))))),?_⟩
  refine⟨_,rfl,h,t.c_House,dx,_,_,rfl,I.self,T.cl_House,T.no_House_now,rfl,_,rfl,c,t.c_Call,dc,_,_,rfl,hc,T.cl_Call,T.no_Call_numbers,rfl,ln,_,_,_,rfl,rfl,SqL.of hln,atI_nat (j:=0) rfl,_,_,rfl,rfl,_,_,rfl,rfl,_,rfl,?_⟩
  refine ite2 (fun c1=>?_) (fun c1=>?_)
  ·refine⟨_,rfl,(by show 1≤sizeLine;decide),fun l1 hl1=>k.err hQ (Same.refl _) hl1 (step_err ho ?_)⟩
   show(if Vbhoae.TIME<st.now+m then _ else _)=_
   rw[if_pos]
   have:(100000:Int)<((st.now:Nat):Int)+((m:Nat):Int):=of_decide_eq_true c1
   show 100000<st.now+m
   omega
  ·have c1': ¬Vbhoae.TIME<st.now+m:=fun z=>c1 (decide_eq_true (by
    show(100000:Int)<((st.now:Nat):Int)+((m:Nat):Int)
    have:100000<st.now+m:=z
    omega))
   refine⟨_,rfl,h,dx,_,rfl,I.self,rfl,_,rfl,c,t.c_Call,dc,_,_,rfl,hc,T.cl_Call,T.no_Call_numbers,rfl,ln,_,_,_,rfl,rfl,SqL.of hln,atI_nat (j:=0) rfl,?_⟩
   refine⟨h,lp,st,m,dx,lb,lr,bas,ras,pas,rfl,I,fun H1 J f1=>?_⟩
   have hok:Vbhoae.step st (.pass m)=(Vbhoae.passed st m,[0,Vbhoae.nat (st.now+m)]):=step_ok ho (by
    show(if Vbhoae.TIME<st.now+m then _ else _)=_
    rw[if_neg c1'])
   refine⟨_,rfl,h,t.c_House,dx,_,_,rfl,J.self,T.cl_House,T.no_House_now,rfl,(by show 2≤sizeLine;decide),fun l9 hl9=>?_⟩
   have s9:Same H1 (upd H1 l9 (.lst [V.int 0,nV (Vbhoae.passed st m).now])):=Same.new hl9
   refine k _ l9 ?_ (f1.trans (Fr.of s9)) (f1.2 _ hl9) ?_
   ·rw[hok]
    exact⟨dx,lb,lr,bas,ras,pas,J.same s9,nq1,nq2,nq3,nq4⟩
   ·rw[hok]
    exact upd_same
def isWalkin(xs:List Int)(_:List (List Int))(cl:Vbhoae.Call):Prop:= ∃n m:Nat,xs=[(n:Int),(m:Int)]∧cl= .walkin n m∧1≤n∧1≤m
theorem ok_walkin(T:Txt K mg t):FnOk P w K mg base CX0 13 t.f_walkin t.d_walkin ["house","call"] (spDo t isWalkin):=by
 refine T.fu_walkin.ok sc_walkin (fun vs H Q E h=>?_) (fun cdv A outer s H vs Q E hr h=>?_)
 ·obtain⟨h,lp,c,q,s,p,xs,rs,e,cl,rfl,_⟩:=h
  rfl
 ·obtain⟨h,lp,c,q,st,p,xs,rs,e,cl,rfl,hQ,hqn,G,ho,⟨dc,ln,lr0,ras0,hc,hln,hlr,hrs,nr0,nrs0⟩,⟨n,m,rfl,rfl,hn,hm⟩,k⟩:=h
  have hop:st.opened=true:=ho.elim id fun z=>by cases z
  obtain⟨h5,hbl,hsz⟩:=open_facts G hop
  obtain⟨dx,lb,lr,bas,ras,pas,I,nq1,nq2,nq3,nq4⟩:=id hQ
  have nd:=sc_walkin.nd
  obtain⟨k1,hk1⟩:=T.ct_MOST_PARTIES
  obtain⟨k2,hk2⟩:=T.ct_AT_A_TABLE
  refine⟨_,pss_cons (ps_set (i:=2) nd rfl (Or.inl rfl) (pe_ix ix_list (pe_fld (pv 1) rfl) pe_int (fun _ _=>rfl)))
   (pss_cons (ps_set (i:=3) nd rfl (Or.inl rfl) (pe_op op_add (pe_fld (pv 0) rfl) (pe_ix ix_list (pe_fld (pv 1) rfl) pe_int (fun _ _=>rfl))))
   (pss_cons (ps_if (pt_cmpR op_ge (pe_callB call_len_seq rfl T.bn_len PySem.boot_len (pa_cons (pe_fld (pv 0) rfl) pa_nil)) (pe_glob (v:= .int 60) rfl hk1 ⟨_,rfl⟩) (nomark _)) (pss_one (ps_ret (pe_lst (pa_cons (pe_un un_neg pe_int) pa_nil)))) pss_nil)
   (pss_cons (ps_set (i:=4) nd rfl (Or.inl rfl) (pe_meth (pv 0) T.cl_House T.me_House_block_now (ok_block_now T) hr T.bi_House_block_now .nil pass0 (pa_cons (pv 2) (pa_cons (pv 3) (pa_cons (pe_meth0 (pv 0) T.cl_House T.me_House_promised (ok_promised T) (hr.mono (by omega)) T.bi_House_promised .nil pass0) pa_nil)))))
   (pss_cons (ps_if (pt_cmpR op_isN (pv 4) pe_non (nomark _)) (pss_one (ps_ret (pe_lst (pa_cons (pe_un un_neg pe_int) pa_nil)))) pss_nil)
   (pss_cons (ps_set (i:=5) nd rfl (Or.inl rfl) (pe_make T.mk_Party (ok_Party_init T) (hr.mono (by omega)) rfl T.mg_Party T.bi_Party_init .nil pass0
    (pa_cons (pe_op op_add (pe_callB call_len_seq rfl T.bn_len PySem.boot_len (pa_cons (pe_fld (pv 0) rfl) pa_nil)) pe_int) (pa_cons (pv 2) (pa_cons (pe_fld (pv 0) rfl) (pa_cons (pv 3) (pa_cons (pe_glob (v:= .int 1) rfl hk2 ⟨_,rfl⟩) (pa_cons (pv 4) pa_nil))))))))
   (pss_cons (ps_expr (pe_bm PySem.F.plainAttrs_list PySem.F.slot_list_append PySem.F.type_list_append mt_append (pe_fld (pv 0) rfl) (pa_cons (pv 5) pa_nil)))
   (pss_one (ps_ret (pe_op op_cat (pe_lst (pa_cons pe_int (pa_cons (pe_fld (pv 5) rfl) pa_nil))) (pe_call (ok_block_told T) (hr.mono (by omega)) rfl T.mg_block_told T.fu_block_told.kp T.bi_block_told .nil pass0 (pa_cons (pv 4) pa_nil))))))))))),?_⟩
  refine⟨_,rfl,c,t.c_Call,dc,_,_,rfl,hc,T.cl_Call,T.no_Call_numbers,rfl,ln,_,_,_,rfl,rfl,SqL.of hln,atI_nat (j:=0) rfl,?_⟩
  refine⟨_,rfl,h,t.c_House,dx,_,_,rfl,I.self,T.cl_House,T.no_House_now,rfl,_,rfl,c,t.c_Call,dc,_,_,rfl,hc,T.cl_Call,T.no_Call_numbers,rfl,ln,_,_,_,rfl,rfl,SqL.of hln,atI_nat (j:=1) rfl,_,_,rfl,rfl,?_⟩
  have en:((st.now:Nat):Int)+((m:Nat):Int)=((st.now+m:Nat):Int):=by omega
  dsimp only
  rw[en]
  refine⟨_,rfl,h,t.c_House,dx,_,_,rfl,I.self,T.cl_House,T.no_House_parties,rfl,lp,_,rfl,.inl (SqL.of I.lp),_,_,rfl,rfl,_,rfl,?_⟩
  have el:(((pas.map V.ref).length :Nat):Int)=((st.parties.length:Nat):Int):=by rw[List.length_map,pas_len I]
  rw[el]
  have hdo: ∀r,Vbhoae.does st (.walkin n m)=r↔(if Vbhoae.PARTIES≤st.parties.length then .error (-4)else match Vbhoae.table st n (st.now+m)with | none=> .error (-9) | some b=> .ok (Vbhoae.withParty st ⟨n,st.now,st.now+m,1,b⟩,Vbhoae.nat (st.parties.length+1)::Vbhoae.blockRow b))=r:=fun r=>Iff.rfl
  refine ite2 (fun c1=>?_) (fun c1=>?_)
  ·refine⟨_,rfl,(by show 1≤sizeLine;decide),fun l1 hl1=>k.err hQ (Same.refl _) hl1 (step_err ho ((hdo _).mpr ?_))⟩
   rw[if_pos]
   have:(60:Int)≤((st.parties.length:Nat):Int):=of_decide_eq_true c1
   show 60≤st.parties.length
   omega
  ·have c1': ¬Vbhoae.PARTIES≤st.parties.length:=fun z=>c1 (decide_eq_true (by
    have:60≤st.parties.length:=z
    show(60:Int)≤((st.parties.length:Nat):Int)
    omega))
   have hl60:st.parties.length<60:=Nat.lt_of_not_le c1'
   refine⟨_,rfl,h,dx,_,rfl,I.self,rfl,_,rfl,_,rfl,_,rfl,h,dx,_,rfl,I.self,rfl,?_⟩
   refine⟨h,st,rfl,hQ.at,fun H1 l1 as s1 n1 hl1 hP1=>?_⟩
   have I1:=I.same s1
   refine⟨h,l1,st,n,st.now+m,as,My.prom st,rfl,⟨dx,lb,lr,lp,bas,ras,pas,I1⟩,SqL.of hl1,hP1,hbl,hsz,by omega,hn,fun H2 bv Pb s2 hPb hm2=>?_⟩
   have hT:=My.table_find G (n:=n) (to_:=st.now+m) (by omega) Pb fun b _=>hPb b
   rw[←hT]at hm2
   have s12:=s1.trans s2
   refine⟨_,rfl,rfl,_,rfl,?_⟩
   cases ht:Vbhoae.table st n (st.now+m)with
   | none=>
    rw[ht]at hm2
    obtain rfl:bv= .non :=hm2
    refine iteT ⟨_,rfl,(by show 1≤sizeLine;decide),fun l9 hl9=>k.err hQ s12 hl9 (step_err ho ((hdo _).mpr ?_))⟩
    rw[if_neg c1',ht]
   | some b=>
    rw[ht]at hm2
    obtain⟨cb,rfl,hb2⟩:=hm2
    refine iteF ?_
    have I2:=I.same s12
    have hok:Vbhoae.step st (.walkin n m)=(Vbhoae.withParty st ⟨n,st.now,st.now+m,1,b⟩,0::Vbhoae.nat (st.parties.length+1)::Vbhoae.blockRow b):=step_ok ho ((hdo _).mpr (by rw[if_neg c1',ht]))
    refine⟨_,rfl,h,t.c_House,dx,_,_,rfl,I2.self,T.cl_House,T.no_House_parties,rfl,lp,_,rfl,.inl (SqL.of I2.lp),_,_,rfl,rfl,_,rfl,_,rfl,h,t.c_House,dx,_,_,rfl,I2.self,T.cl_House,T.no_House_now,rfl,_,rfl,_,rfl,?_⟩
    intro x dy nx ny nxy
    refine⟨x,dy,_,rfl,rfl,upd_same,fun H3 hx kp=>⟨rfl,?_⟩⟩
    have s3:Same H2 H3:=Same.made nx ny kp
    have e1:(((pas.map V.ref).length :Nat):Int)+1=((st.parties.length+1:Nat):Int):=by
     rw[List.length_map,pas_len I]
     omega
    dsimp only at hx
    rw[e1]at hx
    have hb3:=BlkAt.same s3 hb2
    have hp3:PtyAt t H3 st.room x (⟨n,st.now,st.now+m,1,b⟩,st.parties.length+1):=⟨dy,.ref cb,hx,.inl ⟨.inl rfl,cb,rfl,hb3⟩⟩
    have s13:=s12.trans s3
    have I3:=I.same s13
    refine⟨_,rfl,h,t.c_House,dx,_,_,rfl,I3.self,T.cl_House,T.no_House_parties,rfl,.inl ⟨rfl,_,SqL.of I3.lp⟩,_,rfl,lp,_,_,rfl,rfl,I3.lp,?_,?_⟩
    ·rw[List.length_map,pas_len I]
     exact small1000 (by omega)
    have ep:pas.map V.ref++[V.ref x]=(pas++[x]).map V.ref:=by rw[List.map_append];rfl
    rw[ep]
    have I8:=I3.add hp3 hl60
    have f8:Fr h lp H (upd H3 lp (.lst ((pas++[x]).map V.ref))):=(Fr.of s13).trans Fr.add
    have hx8:upd H3 lp (.lst ((pas++[x]).map V.ref)) x=some (.ins t.c_Party dy (ptyF (st.parties.length+1) ⟨n,st.now,st.now+m,1,b⟩ (.ref cb))):=by
     rw[upd_ne (ne_of hx I3.lp (by intro z;cases z))]
     exact hx
    have hb8:BlkAt t (upd H3 lp (.lst ((pas++[x]).map V.ref))) cb st.room b:=by
     obtain⟨db,z⟩:=hb3
     refine⟨db,?_⟩
     rw[upd_ne (ne_of z I3.lp (by intro z;cases z))]
     exact z
    generalize upd H3 lp (.lst ((pas++[x]).map V.ref))=H8 at I8 f8 hx8 hb8 ⊢
    refine⟨_,rfl,x,t.c_Party,dy,_,_,rfl,hx8,T.cl_Party,T.no_Party_number,rfl,(by show 2≤sizeLine;decide),fun l9 hl9=>?_⟩
    have s9:Same H8 (upd H8 l9 (.lst [V.int 0,nV (st.parties.length+1)])):=Same.new hl9
    refine⟨_,rfl,cb,st.room,b,rfl,BlkAt.same s9 hb8,fun l10 hl10=>?_⟩
    have s10:Same (upd H8 l9 (.lst [V.int 0,nV (st.parties.length+1)])) (upd (upd H8 l9 (.lst [V.int 0,nV (st.parties.length+1)])) l10 (.lst ((Vbhoae.blockRow b).map V.int))):=Same.new hl10
    refine⟨l9,l10,_,_,rfl,rfl,s10 _ _ upd_same,upd_same,(by show 5≤sizeLine;decide),fun l11 hl11=>?_⟩
    have s11:Same H8 _:=(s9.trans s10).trans (Same.new (o:= .lst ([V.int 0,nV (st.parties.length+1)]++(Vbhoae.blockRow b).map V.int)) hl11)
    refine k _ l11 ?_ (f8.trans (Fr.of s11)) (f8.2 _ (Same.none (s9.trans s10) hl11)) ?_
    ·rw[hok]
     exact⟨dx,lb,lr,bas,ras,pas++[x],I8.same s11,nq1,nq2,nq3,nq4⟩
    ·rw[hok]
     exact upd_same
theorem ok_arrive(T:Txt K mg t):FnOk P w K mg base CX0 13 t.f_arrive t.d_arrive ["house","call"] (spDo t (isOne .arrive)):=by
 refine T.fu_arrive.ok sc_arrive (fun vs H Q E h=>?_) (fun cdv A outer s H vs Q E hr h=>?_)
 ·obtain⟨h,lp,c,q,s,p,xs,rs,e,cl,rfl,_⟩:=h
  rfl
 ·obtain⟨h,lp,c,q,st,p,xs,rs,e,cl,rfl,hQ,hqn,G,ho,⟨dc,ln,lr0,ras0,hc,hln,hlr,hrs,nr0,nrs0⟩,⟨n,rfl,rfl,hn⟩,k⟩:=h
  have hop:st.opened=true:=ho.elim id fun z=>by cases z
  obtain⟨h5,hbl,hsz⟩:=open_facts G hop
  obtain⟨dx,lb,lr,bas,ras,pas,I,nq1,nq2,nq3,nq4⟩:=id hQ
  have nd:=sc_arrive.nd
  obtain⟨k0,hk0⟩:=T.ct_PROMISED
  obtain⟨k2,hk2⟩:=T.ct_AT_A_TABLE
  refine⟨_,pss_cons (ps_set (i:=2) nd rfl (Or.inl rfl) (pe_call (ok_party_refusal T) (hr.mono (by omega)) rfl T.mg_party_refusal T.fu_party_refusal.kp T.bi_party_refusal .nil pass0
    (pa_cons (pv 0) (pa_cons (pe_ix ix_list (pe_fld (pv 1) rfl) pe_int (fun _ _=>rfl)) (pa_cons (pe_glob (v:= .int 0) rfl hk0 ⟨_,rfl⟩) pa_nil)))))
   (pss_cons (ps_if (pt_truth (pv 2) (fun _=>rfl)) (pss_one (ps_ret (pe_lst (pa_cons (pv 2) pa_nil)))) pss_nil)
   (pss_cons (ps_set (i:=3) nd rfl (Or.inr rfl) (pe_meth (pv 0) T.cl_House T.me_House_party_of (ok_party_of T) (hr.mono (by omega)) T.bi_House_party_of .nil pass0 (pa_cons (pe_ix ix_list (pe_fld (pv 1) rfl) pe_int (fun _ _=>rfl)) pa_nil)))
   (pss_cons (ps_setLc (i:=4) (own:=[("other",6)]) rfl nd rfl rfl (sw_true rfl rfl rfl rfl) (pi_list (pe_meth0 (pv 0) T.cl_House T.me_House_promised (ok_promised T) (hr.mono (by omega)) T.bi_House_promised .nil pass0))
    (show BlkOk n_arrive (defScope s_arrive) _ _ from blk_of (by decide +kernel))
    (fun _ _ _ _ _=>pg_name (i:=6) nd rfl (Or.inl rfl)) (fun _ _ _ _ _=>pts_one (pt_cmpR op_ne (bk_fld (pv 6) rfl) (bk_fld (pv 3) rfl) (by rfl))) (fun _ _ _ _ _=>pv 6))
   (pss_cons (ps_set (i:=5) nd rfl (Or.inl rfl) (pe_meth (pv 0) T.cl_House T.me_House_block_now (ok_block_now T) hr T.bi_House_block_now .nil pass0 (pa_cons (pe_fld (pv 3) rfl) (pa_cons (pe_fld (pv 3) rfl) (pa_cons (pv 4) pa_nil)))))
   (pss_cons (ps_if (pt_cmpR op_isN (pv 5) pe_non (nomark _)) (pss_one (ps_ret (pe_lst (pa_cons (pe_un un_neg pe_int) pa_nil)))) pss_nil)
   (pss_cons (ps_fld (pv 3) (pv 5) rfl)
   (pss_cons (ps_fld (pv 3) (pe_fld (pv 0) rfl) rfl)
   (pss_cons (ps_fld (pv 3) (pe_glob (v:= .int 1) rfl hk2 ⟨_,rfl⟩) rfl)
   (pss_one (ps_ret (pe_op op_cat (pe_lst (pa_cons pe_int pa_nil)) (pe_call (ok_block_told T) (hr.mono (by omega)) rfl T.mg_block_told T.fu_block_told.kp T.bi_block_told .nil pass0 (pa_cons (pv 5) pa_nil))))))))))))),?_⟩
  refine⟨_,rfl,_,rfl,c,t.c_Call,dc,_,_,rfl,hc,T.cl_Call,T.no_Call_numbers,rfl,ln,_,_,_,rfl,rfl,SqL.of hln,atI_nat (j:=0) rfl,?_⟩
  refine⟨h,st,n,0,rfl,hQ.at,hn,?_⟩
  refine⟨_,rfl,_,rfl,?_⟩
  show if (refusal st n 0 != 0)=true then _ else _
  by_cases hz:refusal st n 0=0
  ·obtain⟨x,hx,hpx,hx0⟩:=refusal_zero hn hz
   have eb:(refusal st n 0 != 0)=false:=by rw[hz];rfl
   rw[eb]
   refine iteF ?_
   obtain⟨a,dp,bv,ha,h1,h2⟩:=party_there I hx
   refine⟨_,rfl,h,dx,_,rfl,I.self,rfl,_,rfl,c,t.c_Call,dc,_,_,rfl,hc,T.cl_Call,T.no_Call_numbers,rfl,ln,_,_,_,rfl,rfl,SqL.of hln,atI_nat (j:=0) rfl,?_⟩
   refine⟨h,st,n-1,congrArg (fun k:Nat=>[V.ref h,nV k]) (show n=n-1+1 by omega),dx,lb,lr,lp,bas,ras,pas,a,I,ha,?_⟩
   refine⟨_,rfl,h,dx,_,rfl,I.self,rfl,?_⟩
   refine⟨h,st,rfl,hQ.at,fun H1 l1 as s1 n1 hl1 hP1=>?_⟩
   refine⟨l1,rfl,⟨_,SqL.of hl1⟩,fun D hD=>?_⟩
   have s2: ∀o,Same H1 (upd H1 D o):=fun o=>Same.new hD
   let f:Vbhoae.Party×Nat→Bool:=fun y=>decide (y.2≠n)
   have eN:n-1+1=n:=by omega
   refine lc_list (K:=K) (a:=l1) (xs:=as.map V.ref) (fun j H2=>H2=upd H1 D (.lst ((pick f (as.take j) ((My.prom st).take j)).map V.ref))) rfl (fun j H2 _ e=>by rw[e];exact(s2 _).seq (SqL.of hl1)) ?_ ?_
   ·rintro j y H2 hj e
    rw[List.getElem?_map]at hj
    obtain⟨b,hb,rfl⟩:=Option.map_eq_some_iff.mp hj
    obtain⟨z,hz2,db,bw,hpb,_⟩:=paired_at hP1 hb
    subst e
    have g1:=s2 (.lst ((pick f (as.take j) ((My.prom st).take j)).map V.ref)) _ _ hpb
    have g2:=s2 (.lst ((pick f (as.take j) ((My.prom st).take j)).map V.ref)) _ _ (s1 _ _ h1)
    have ll:(as.take j).length =((My.prom st).take j).length :=by rw[List.length_take,List.length_take,Paired.length hP1]
    have et:pick f (as.take (j+1)) ((My.prom st).take (j+1))=pick f (as.take j) ((My.prom st).take j)++if f z=true then [b]else []:=by
     rw[List.take_add_one,List.take_add_one,hb,hz2]
     exact pick_snoc ll
    refine⟨rfl,_,rfl,b,t.c_Party,db,_,_,rfl,g1,T.cl_Party,T.no_Party_number,rfl,_,rfl,a,t.c_Party,dp,_,_,rfl,g2,T.cl_Party,T.no_Party_number,rfl,rfl,_,rfl,?_⟩
    have ed:(!decide (nV z.2=nV (n-1+1)))=f z:=by
     rw[eN]
     show(!decide (nV z.2=nV n))=decide (z.2≠n)
     by_cases q2:z.2=n
     ·rw[q2,decide_eq_true rfl,decide_eq_false fun z=>z rfl]
      rfl
     ·rw[decide_eq_false fun z=>q2 (by have:=V.int.inj z;omega),decide_eq_true q2]
      rfl
    rw[ed]
    refine ite2 (fun c1=>?_) (fun c1=>?_)
    ·refine⟨_,rfl,_,upd_same,?_,?_⟩
     ·rw[List.length_map]
      refine small1000 (Nat.le_trans (pick_len ..) ?_)
      rw[List.length_take,Paired.length hP1]
      omega
     ·rw[upd_upd,et,if_pos c1,List.map_append]
      rfl
    ·rw[et,if_neg c1,List.append_nil]
   ·rintro H2 e
    have e2:(My.prom st).take (as.map V.ref).length =My.prom st:=by rw[List.length_map,Paired.length hP1,List.take_length]
    rw[e2,List.length_map,List.take_length]at e
    have s12:Same H1 H2:=by rw[e];exact s2 _
    have hl2:H2 D=some (.lst ((pick f as (My.prom st)).map V.ref)):=by rw[e];exact upd_same
    have hP2:Paired (PtyAt t H2 st.room) (pick f as (My.prom st)) ((My.prom st).filter f):=Paired.mapP (pick_paired (p:=f) hP1) fun _ _ z=>z.same s12
    clear e
    generalize pick f as (My.prom st)=os at hl2 hP2
    have s02:=s1.trans s12
    have I2:=I.same s02
    have ha2:=s02 _ _ h1
    have hxs:1≤x.size:=(G.pty x (List.mem_of_getElem? hx)).size.1
    refine⟨_,rfl,h,dx,_,rfl,I2.self,rfl,_,rfl,a,t.c_Party,dp,_,_,rfl,ha2,T.cl_Party,T.no_Party_size,rfl,_,rfl,a,t.c_Party,dp,_,_,rfl,ha2,T.cl_Party,T.no_Party_time_to,rfl,_,rfl,?_⟩
    refine⟨h,D,st,x.size,x.to_,os,(My.prom st).filter f,rfl,⟨dx,lb,lr,lp,bas,ras,pas,I2⟩,SqL.of hl2,hP2,hbl,fun y hy=>hsz y (List.mem_filter.mp hy).1,?_,hxs,fun H3 bv3 Pb s3 hPb hm3=>?_⟩
    ·have:=List.length_filter_le f (My.prom st)
     omega
    have hT:=My.arrive_table G hop hn hx hx0 Pb hPb
    rw[←hT]at hm3
    have s03:=s02.trans s3
    have hdo: ∀r,Vbhoae.does st (.arrive n)=r↔(match Vbhoae.table (Vbhoae.setParty st n fun y=>{y with stage:=3}) x.size x.to_ with | none=> .error (-9) | some b=> .ok (Vbhoae.setParty st n fun y=>{y with stage:=1,from_:=st.now,block:=b},Vbhoae.blockRow b))=r:=fun r=>by
     have:Vbhoae.does st (.arrive n)=(match Vbhoae.table (Vbhoae.setParty st n fun y=>{y with stage:=3}) x.size x.to_ with | none=> .error (-9) | some b=> .ok (Vbhoae.setParty st n fun y=>{y with stage:=1,from_:=st.now,block:=b},Vbhoae.blockRow b)):=good_does hpx hx0
     rw[this]
    refine⟨_,rfl,rfl,_,rfl,?_⟩
    cases ht:Vbhoae.table (Vbhoae.setParty st n fun y=>{y with stage:=3}) x.size x.to_ with
    | none=>
     rw[ht]at hm3
     obtain rfl:bv3= .non :=hm3
     refine iteT ⟨_,rfl,(by show 1≤sizeLine;decide),fun l9 hl9=>k.err hQ s03 hl9 (step_err ho ((hdo _).mpr ?_))⟩
     rw[ht]
    | some b=>
     rw[ht]at hm3
     obtain⟨cb,rfl,hb3⟩:=hm3
     refine iteF ?_
     have I3:=I.same s03
     have ha3:=s03 _ _ h1
     have hok:Vbhoae.step st (.arrive n)=(Vbhoae.setParty st n fun y=>{y with stage:=1,from_:=st.now,block:=b},0::Vbhoae.blockRow b):=step_ok ho ((hdo _).mpr (by rw[ht]))
     have nah:h≠a:=Ne.symm (ne_of ha3 I3.self pty_house)
     refine⟨_,rfl,_,rfl,a,t.c_Party,dp,_,rfl,ha3,T.cl_Party,T.no_Party_block,(by show 6<1000;decide),?_⟩
     refine⟨_,rfl,h,t.c_House,dx,_,_,rfl,by rw[upd_ne nah];exact I3.self,T.cl_House,T.no_House_now,rfl,_,rfl,a,t.c_Party,dp,_,rfl,upd_same,T.cl_Party,T.no_Party_time_from,(by show 6<1000;decide),?_⟩
     refine⟨_,rfl,a,t.c_Party,dp,_,rfl,upd_same,T.cl_Party,T.no_Party_stage,(by show 6<1000;decide),?_⟩
     rw[upd_upd,upd_upd]
     have J:=I3.put (g:=fun y=>{y with stage:=1,from_:=st.now,block:=b}) (bv':= .ref cb) ha hx ha3 (.inl ⟨.inl rfl,cb,rfl,hb3⟩)
     have f1:Fr h lp H (upd H3 a (.ins t.c_Party dp (ptyF (n-1+1) {x with stage:=1,from_:=st.now,block:=b} (.ref cb)))):=(Fr.of s03).trans (Fr.put ha3 ⟨_,_,_,_,_,rfl⟩)
     have hb8:BlkAt t (upd H3 a (.ins t.c_Party dp (ptyF (n-1+1) {x with stage:=1,from_:=st.now,block:=b} (.ref cb)))) cb st.room b:=blk_off ha3 ⟨_,_,_,_,_,rfl⟩ hb3
     have e0:upd H3 a (.ins t.c_Party dp (putF "stage" (V.int 1) (putF "time_from" (nV st.now) (putF "block" (V.ref cb) (ptyF (n-1+1) x bv)))))=upd H3 a (.ins t.c_Party dp (ptyF (n-1+1) {x with stage:=1,from_:=st.now,block:=b} (.ref cb))):=rfl
     rw[e0]
     generalize upd H3 a (.ins t.c_Party dp (ptyF (n-1+1) {x with stage:=1,from_:=st.now,block:=b} (.ref cb)))=H8 at J f1 hb8 ⊢
     refine⟨(by show 1≤sizeLine;decide),fun l9 hl9=>?_⟩
     have s9:Same H8 (upd H8 l9 (.lst [V.int 0])):=Same.new hl9
     refine⟨_,rfl,cb,st.room,b,rfl,BlkAt.same s9 hb8,fun l10 hl10=>?_⟩
     have s10:Same (upd H8 l9 (.lst [V.int 0])) (upd (upd H8 l9 (.lst [V.int 0])) l10 (.lst ((Vbhoae.blockRow b).map V.int))):=Same.new hl10
     refine⟨l9,l10,_,_,rfl,rfl,s10 _ _ upd_same,upd_same,(by show 4≤sizeLine;decide),fun l11 hl11=>?_⟩
     have s11:Same H8 _:=(s9.trans s10).trans (Same.new (o:= .lst ([V.int 0]++(Vbhoae.blockRow b).map V.int)) hl11)
     refine k _ l11 ?_ (f1.trans (Fr.of s11)) (f1.2 _ (Same.none (s9.trans s10) hl11)) ?_
     ·rw[hok,set_at hn]
      exact⟨dx,lb,lr,bas,ras,pas,J.same s11,nq1,nq2,nq3,nq4⟩
     ·rw[hok]
      exact upd_same
  ·have eb:(refusal st n 0 != 0)=true:=bne_iff_ne.mpr hz
   rw[eb]
   refine iteT ⟨_,rfl,(by show 1≤sizeLine;decide),fun l1 hl1=>k.err hQ (Same.refl _) hl1 (step_err ho (bad_does hz))⟩
def isQuote(xs:List Int)(_:List (List Int))(cl:Vbhoae.Call):Prop:= ∃n m:Nat,xs=[(n:Int),(m:Int)]∧cl= .quote n m∧1≤n∧1≤m
theorem ok_quote(T:Txt K mg t):FnOk P w K mg base CX0 14 t.f_quote t.d_quote ["house","call"] (spDo t isQuote):=by
 refine T.fu_quote.ok sc_quote (fun vs H Q E h=>?_) (fun cdv A outer s H vs Q E hr h=>?_)
 ·obtain⟨h,lp,c,q,s,p,xs,rs,e,cl,rfl,_⟩:=h
  rfl
 ·obtain⟨h,lp,c,q,st,p,xs,rs,e,cl,rfl,hQ,hqn,G,ho,⟨dc,ln,lr0,ras0,hc,hln,hlr,hrs,nr0,nrs0⟩,⟨n,m,rfl,rfl,hn,hm⟩,k⟩:=h
  have hop:st.opened=true:=ho.elim id fun z=>by cases z
  obtain⟨h5,hbl,hsz⟩:=open_facts G hop
  obtain⟨dx,lb,lr,bas,ras,pas,I,nq1,nq2,nq3,nq4⟩:=id hQ
  have nd:=sc_quote.nd
  obtain⟨k1,hk1⟩:=T.ct_LAST_MINUTE
  refine⟨_,pss_cons (ps_if (pt_val (pe_call (ok_is_full T) (hr.mono (by omega)) rfl T.mg_is_full T.fu_is_full.kp T.bi_is_full .nil pass0 (pa_cons (pv 0) pa_nil))) (pss_one (ps_ret (pe_lst (pa_cons (pe_un un_neg pe_int) pa_nil)))) pss_nil)
   (pss_cons (ps_set (i:=2) nd rfl (Or.inl rfl) (pe_meth (pv 0) T.cl_House T.me_House_earliest_promise (ok_earliest_promise T) hr T.bi_House_earliest_promise .nil pass0 (pa_cons (pe_ix ix_list (pe_fld (pv 1) rfl) pe_int (fun _ _=>rfl)) (pa_cons (pe_ix ix_list (pe_fld (pv 1) rfl) pe_int (fun _ _=>rfl)) pa_nil))))
   (pss_cons (ps_if (PW.pt (pw_or (pt_cmpR op_isN (pv 2) pe_non (nomark _)) (pw_or1 (pt_cmpR op_gt (pv 2) (pe_glob (v:= .int 100000) rfl hk1 ⟨_,rfl⟩) (nomark _))))) (pss_one (ps_ret (pe_lst (pa_cons pe_int (pa_cons pe_int pa_nil))))) pss_nil)
   (pss_one (ps_ret (pe_lst (pa_cons pe_int (pa_cons pe_int (pa_cons (pv 2) pa_nil)))))))),?_⟩
  have hdo: ∀r,Vbhoae.does st (.quote n m)=r↔(if Vbhoae.PARTIES≤st.parties.length∨Vbhoae.WAITING≤Vbhoae.waitingCount st then .error (-4)else match Vbhoae.quoteOf st n m with | none=> .ok (st,[0]) | some t=> .ok (st,[1,Vbhoae.nat t]))=r:=fun r=>Iff.rfl
  refine⟨_,rfl,h,st,rfl,hQ.at,fun H1 s1=>⟨_,rfl,?_⟩⟩
  refine ite2 (fun c2=>?_) (fun c2=>?_)
  ·refine⟨_,rfl,(by show 1≤sizeLine;decide),fun l1 hl1=>k.err hQ s1 hl1 (step_err ho ((hdo _).mpr ?_))⟩
   rw[if_pos]
   have:=of_decide_eq_true c2
   rw[←My.waiting_prom]at this
   exact this
  ·have c2': ¬(Vbhoae.PARTIES≤st.parties.length∨Vbhoae.WAITING≤Vbhoae.waitingCount st):=fun z=>c2 (decide_eq_true (by
    rw[←My.waiting_prom]
    exact z))
   have I1:=I.same s1
   have hc1:=s1 _ _ hc
   have hln1:=s1 _ _ hln
   refine⟨_,rfl,h,dx,_,rfl,I1.self,rfl,_,rfl,c,t.c_Call,dc,_,_,rfl,hc1,T.cl_Call,T.no_Call_numbers,rfl,ln,_,_,_,rfl,rfl,SqL.of hln1,atI_nat (j:=0) rfl,_,rfl,c,t.c_Call,dc,_,_,rfl,hc1,T.cl_Call,T.no_Call_numbers,rfl,ln,_,_,_,rfl,rfl,SqL.of hln1,atI_nat (j:=1) rfl,?_⟩
   refine⟨h,st,n,m,rfl,⟨dx,lb,lr,lp,bas,ras,pas,I1⟩,h5,hbl,hsz,hn,fun H2 v ms Pb s2 k1 k2 k3 k4=>?_⟩
   have hq:=My.quote_at G (n:=n) (len:=m) hm k1 k2 k3
   have s12:=s1.trans s2
   have tell: ∀{ns:List Int} {l:Addr},H2 l=none→Vbhoae.does st (.quote n m)= .ok (st,ns)→Q (.ref l) (upd H2 l (.lst ((0::ns).map V.int))):=fun{ns l} hl hd=>
    k.told hQ (s12.trans (Same.new hl)) (Same.none s12 hl) upd_same (step_ok ho hd)
   cases hf:ms.find? Pb with
   | none=>
    rw[hf]at k4 hq
    obtain rfl:v= .non :=k4
    refine⟨_,rfl,rfl,_,rfl,iteT (iteT ⟨(by show 2≤sizeLine;decide),fun l9 hl9=>?_⟩)⟩
    refine tell (ns:=[0]) hl9 ((hdo _).mpr ?_)
    rw[if_neg c2',hq]
    rfl
   | some x=>
    rw[hf]at k4 hq
    obtain rfl:v=nV x:=k4
    refine⟨_,rfl,rfl,_,rfl,iteF ?_⟩
    refine⟨_,rfl,_,_,rfl,rfl,_,rfl,?_⟩
    refine ite2 (fun c3=>?_) (fun c3=>?_)
    ·have c3': ¬x≤Vbhoae.TIME:=fun z=>by
      have h1:(100000:Int)<((x:Nat):Int):=of_decide_eq_true c3
      have h2:x≤100000:=z
      omega
     refine⟨(by show 2≤sizeLine;decide),fun l9 hl9=>?_⟩
     refine tell (ns:=[0]) hl9 ((hdo _).mpr ?_)
     rw[if_neg c2',hq]
     show(match (if x≤Vbhoae.TIME then some x else none)with | none=>_ | some t=>_)=_
     rw[if_neg c3']
    ·have c3':x≤Vbhoae.TIME:=by
      have h1: ¬(100000:Int)<((x:Nat):Int):=fun z=>c3 (decide_eq_true z)
      show x≤100000
      omega
     refine⟨_,rfl,(by show 3≤sizeLine;decide),fun l9 hl9=>?_⟩
     refine tell (ns:=[1,Vbhoae.nat x]) hl9 ((hdo _).mpr ?_)
     rw[if_neg c2',hq]
     show(match (if x≤Vbhoae.TIME then some x else none)with | none=>_ | some t=>_)=_
     rw[if_pos c3']
def isNone(C:Vbhoae.Call)(_:List Int)(_:List (List Int))(cl:Vbhoae.Call):Prop:=cl=C
theorem unpair{R:Addr→Vbhoae.Party×Nat→Prop}{L:List (Vbhoae.Party×Nat)}: ∀{as:List Addr} {places:List Nat},Paired (fun a p=> ∃x,L[p]? =some x∧R a x) as places→ ∃xs,Paired R as xs∧xs.map Prod.snd=(places.map fun i=>(L.map Prod.snd).getD i 0)∧ ∀x∈xs,x∈L
 | _,_,.nil =>⟨[],.nil,rfl,fun x hx=>nomatch hx⟩
 | _,_,.cons ⟨x,h1,h2⟩ q=>by
  obtain⟨xs,i1,i2,i3⟩:=unpair q
  refine⟨x::xs,.cons h2 i1,?_,?_⟩
  ·rw[List.map_cons,List.map_cons,i2]
   congr 1
   rw[List.getD_eq_getElem?_getD,List.getElem?_map,h1]
   rfl
  ·intro y hy
   rcases List.mem_cons.mp hy with rfl | hy
   ·exact List.mem_of_getElem? h1
   ·exact i3 y hy
theorem ok_trouble(T:Txt K mg t):FnOk P w K mg base CX0 13 t.f_trouble t.d_trouble ["house","call"] (spDo t (isNone .trouble)):=by
 refine T.fu_trouble.ok sc_trouble (fun vs H Q E h=>?_) (fun cdv A outer s H vs Q E hr h=>?_)
 ·obtain⟨h,lp,c,q,s,p,xs,rs,e,cl,rfl,_⟩:=h
  rfl
 ·obtain⟨h,lp,c,q,st,p,xs,rs,e,cl,rfl,hQ,hqn,G,ho,⟨dc,ln,lr0,ras0,hc,hln,hlr,hrs,nr0,nrs0⟩,rfl,k⟩:=h
  have hop:st.opened=true:=ho.elim id fun z=>by cases z
  obtain⟨h5,hbl,hsz⟩:=open_facts G hop
  obtain⟨dx,lb,lr,bas,ras,pas,I,nq1,nq2,nq3,nq4⟩:=id hQ
  refine⟨_,pss_one (ps_ret (pe_op op_cat (pe_lst (pa_cons pe_int pa_nil)) (pe_call (ok_parties_told T) (hr.mono (by omega)) rfl T.mg_parties_told T.fu_parties_told.kp T.bi_parties_told .nil pass0
   (pa_cons (pe_meth0 (pv 0) T.cl_House T.me_House_in_trouble (ok_in_trouble T) hr T.bi_House_in_trouble .nil pass0) pa_nil)))),?_⟩
  refine⟨(by show 1≤sizeLine;decide),fun l1 hl1=>?_⟩
  have s1:Same H (upd H l1 (.lst [V.int 0])):=Same.new hl1
  have hl1':upd H l1 (.lst [V.int 0]) l1=some (.lst [V.int 0]):=upd_same
  generalize upd H l1 (.lst [V.int 0])=H1 at s1 hl1' ⊢
  have I1:=I.same s1
  refine⟨_,rfl,h,dx,_,rfl,I1.self,rfl,?_⟩
  refine⟨h,st,rfl,⟨dx,lb,lr,lp,bas,ras,pas,I1⟩,h5,hbl,hsz,fun H2 l2 as2 i places s2 n2 hl2 hP2 e1 e2 e3=>?_⟩
  obtain⟨ys,y1,y2,y3⟩:=unpair hP2
  have ht:=My.trouble_at G e1 e2 e3
  rw[←y2]at ht
  have lys:ys.length≤1000:=by
   have:=places_short h5 e1
   rw[←Paired.length y1,Paired.length hP2]
   omega
  refine⟨l2,st.room,as2,ys,rfl,SqL.of hl2,y1,lys,fun H3 l3 s3 n3 hl3=>?_⟩
  refine⟨l1,l3,_,_,rfl,rfl,s3 _ _ (s2 _ _ hl1'),hl3,?_,fun l9 hl9=>?_⟩
  ·show 1+((Vbhoae.nat ys.length::ys.map fun x=>Vbhoae.nat x.2).map V.int).length ≤sizeLine
   rw[List.length_map,List.length_cons,List.length_map,sizeLine_eq]
   omega
  have s13:=s1.trans (s2.trans s3)
  refine k.told (ns:=0::Vbhoae.nat (Vbhoae.trouble st).length ::(Vbhoae.trouble st).map Vbhoae.nat) hQ (s13.trans (Same.new hl9)) (Same.none s13 hl9) ?_ (step_ok ho rfl)
  rw[upd_same,ht,List.length_map,List.map_map]
  rfl
theorem row_len(b:Vbhoae.Block):(Vbhoae.blockRow b).length =3:=rfl
theorem rows_len: ∀l:List Vbhoae.Block,(l.flatMap Vbhoae.blockRow).length =3*l.length
 | []=>rfl
 | b::l=>by
  rw[List.flatMap_cons,List.length_append,row_len,rows_len l,List.length_cons]
  omega
def isSize(xs:List Int)(_:List (List Int))(cl:Vbhoae.Call):Prop:= ∃n:Nat,xs=[(n:Int)]∧cl= .free n∧1≤n
theorem ok_free_now(T:Txt K mg t):FnOk P w K mg base CX0 5 t.f_free_now t.d_free_now ["house","call"] (spDo t isSize):=by
 refine T.fu_free_now.ok sc_free_now (fun vs H Q E h=>?_) (fun cdv A outer s H vs Q E hr h=>?_)
 ·obtain⟨h,lp,c,q,s,p,xs,rs,e,cl,rfl,_⟩:=h
  rfl
 ·obtain⟨h,lp,c,q,st,p,xs,rs,e,cl,rfl,hQ,hqn,G,ho,⟨dc,ln,lr0,ras0,hc,hln,hlr,hrs,nr0,nrs0⟩,⟨n,rfl,rfl,hn⟩,k⟩:=h
  have hop:st.opened=true:=ho.elim id fun z=>by cases z
  obtain⟨h5,hbl,hsz⟩:=open_facts G hop
  obtain⟨dx,lb,lr,bas,ras,pas,I,nq1,nq2,nq3,nq4⟩:=id hQ
  have nd:=sc_free_now.nd
  refine⟨_,pss_cons (ps_set (i:=2) nd rfl (Or.inl rfl) (pe_meth (pv 0) T.cl_House T.me_House_unused_tight_blocks (ok_unused_tight_blocks T) hr T.bi_House_unused_tight_blocks .nil pass0 (pa_cons (pe_ix ix_list (pe_fld (pv 1) rfl) pe_int (fun _ _=>rfl)) (pa_cons (pe_fld (pv 0) rfl) pa_nil))))
   (pss_cons (ps_set (i:=3) nd rfl (Or.inl rfl) (pe_lst (pa_cons pe_int (pa_cons (pe_callB call_len_seq rfl T.bn_len PySem.boot_len (pa_cons (pv 2) pa_nil)) pa_nil))))
   (pss_cons (ps_for PassesOwn.never rfl (pi_list (pv 2)) (pg_name (i:=4) nd rfl (Or.inl rfl))
    (pss_one (ps_expr (pe_bm PySem.F.plainAttrs_list PySem.F.slot_list_extend PySem.F.type_list_extend mt_extend (pv 3) (pa_cons (pe_call (ok_block_told T) (hr.mono (by omega)) rfl T.mg_block_told T.fu_block_told.kp T.bi_block_told .nil pass0 (pa_cons (pv 4) pa_nil)) pa_nil)))))
   (pss_one (ps_ret (pv 3))))),?_⟩
  refine⟨_,rfl,h,dx,_,rfl,I.self,rfl,_,rfl,c,t.c_Call,dc,_,_,rfl,hc,T.cl_Call,T.no_Call_numbers,rfl,ln,_,_,_,rfl,rfl,SqL.of hln,atI_nat (j:=0) rfl,_,rfl,h,t.c_House,dx,_,_,rfl,I.self,T.cl_House,T.no_House_now,rfl,?_⟩
  refine⟨h,st,n,st.now,rfl,hQ.at,hbl,hn,fun H1 l1 as s1 n1 hl1 hB1=>?_⟩
  have hlen:=open_len hbl n st.now
  have ll:=Paired.length hB1
  generalize hL:My.openBlocks st n st.now=L at hB1 hlen ll
  refine⟨_,rfl,l1,_,rfl,.inl (SqL.of hl1),(by show 2≤sizeLine;decide),fun D hD=>?_⟩
  have el:(((as.map V.ref).length :Nat):Int)=Vbhoae.nat L.length:=by rw[List.length_map,ll];rfl
  rw[el]
  have s2:Same H1 (upd H1 D (.lst [V.int 0,V.int (Vbhoae.nat L.length)])):=Same.new hD
  refine⟨_,rfl,l1,rfl,⟨_,s2.seq (SqL.of hl1)⟩,?_⟩
  refine for_list (K:=K) (a:=l1) (xs:=as.map V.ref) (fun i σ H'=> ∃v4:Option V,σ=[some (.ref h),some (.ref c),some (.ref l1),some (.ref D),v4]∧Same H1 H'∧H' D=some (.lst ((0::Vbhoae.nat L.length::(L.take i).flatMap Vbhoae.blockRow).map V.int)))
   ⟨none,rfl,s2,upd_same⟩ (fun i σ H' _ ⟨_,_,s5,_⟩=>s5.seq (SqL.of hl1)) ?_ ?_
  ·rintro i y σ H' hi ⟨v4,rfl,s5,hD5⟩
   rw[List.getElem?_map]at hi
   obtain⟨cb,hcb,rfl⟩:=Option.map_eq_some_iff.mp hi
   obtain⟨b,hb,hba⟩:=paired_at hB1 hcb
   refine⟨_,rfl,.inl ⟨rfl,_,SqL.of hD5⟩,_,rfl,cb,st.room,b,rfl,BlkAt.same s5 hba,fun l6 hl6=>?_⟩
   have s6:Same H' (upd H' l6 (.lst ((Vbhoae.blockRow b).map V.int))):=Same.new hl6
   refine⟨D,l6,_,_,rfl,rfl,s6 _ _ hD5,upd_same,?_,some (.ref cb),rfl,fun e o eo=>?_,?_⟩
   ·rw[List.length_map,List.length_map,List.length_cons,List.length_cons,rows_len,row_len,List.length_take,sizeLine_eq]
    omega
   ·rw[upd_ne (ne_of_none eo hD)]
    exact s6 _ _ (s5 _ _ eo)
   ·rw[upd_same,←List.map_append,List.take_add_one,hb,List.flatMap_append]
    simp
  ·rintro σ H' ⟨v4,rfl,s5,hD5⟩
   have e:L.take (as.map V.ref).length =L:=by rw[List.length_map,ll,List.take_length]
   rw[e]at hD5
   refine⟨_,rfl,k.told hQ (s1.trans s5) (Same.none s1 hD) hD5 (step_ok ho ?_)⟩
   show Except.ok (st,Vbhoae.nat ((Vbhoae.choices st.room n).filter fun b=>Vbhoae.fits (Vbhoae.used st) ⟨b,st.now,st.now+1⟩).length ::((Vbhoae.choices st.room n).filter fun b=>Vbhoae.fits (Vbhoae.used st) ⟨b,st.now,st.now+1⟩).flatMap Vbhoae.blockRow)=_
   rw[My.free_eq G,hL]
theorem ok_party_now(T:Txt K mg t):FnOk P w K mg base CX0 2 t.f_party_now t.d_party_now ["house","call"] (spDo t (isOne .party)):=by
 refine T.fu_party_now.ok sc_party_now (fun vs H Q E h=>?_) (fun cdv A outer s H vs Q E hr h=>?_)
 ·obtain⟨h,lp,c,q,s,p,xs,rs,e,cl,rfl,_⟩:=h
  rfl
 ·obtain⟨h,lp,c,q,st,p,xs,rs,e,cl,rfl,hQ,hqn,G,ho,⟨dc,ln,lr0,ras0,hc,hln,hlr,hrs,nr0,nrs0⟩,⟨n,rfl,rfl,hn⟩,k⟩:=h
  obtain⟨dx,lb,lr,bas,ras,pas,I,nq1,nq2,nq3,nq4⟩:=id hQ
  have nd:=sc_party_now.nd
  refine⟨_,pss_cons (ps_if (pt_not (pt_val (pe_call (ok_has_party T) hr rfl T.mg_has_party T.fu_has_party.kp T.bi_has_party .nil pass0 (pa_cons (pv 0) (pa_cons (pe_ix ix_list (pe_fld (pv 1) rfl) pe_int (fun _ _=>rfl)) pa_nil))))) (pss_one (ps_ret (pe_lst (pa_cons (pe_un un_neg pe_int) pa_nil)))) pss_nil)
   (pss_cons (ps_set (i:=2) nd rfl (Or.inl rfl) (pe_meth (pv 0) T.cl_House T.me_House_party_of (ok_party_of T) hr T.bi_House_party_of .nil pass0 (pa_cons (pe_ix ix_list (pe_fld (pv 1) rfl) pe_int (fun _ _=>rfl)) pa_nil)))
   (pss_cons (ps_set (i:=3) nd rfl (Or.inl rfl) (pe_ifExp (pt_cmpR op_isN (pe_fld (pv 2) rfl) pe_non (nomark _)) (pe_lst (pa_cons pe_int (pa_cons pe_int (pa_cons pe_int pa_nil)))) (pe_call (ok_block_told T) hr rfl T.mg_block_told T.fu_block_told.kp T.bi_block_told .nil pass0 (pa_cons (pe_fld (pv 2) rfl) pa_nil))))
   (pss_one (ps_ret (pe_op op_cat (pe_lst (pa_cons pe_int (pa_cons (pe_fld (pv 2) rfl) (pa_cons (pe_fld (pv 2) rfl) (pa_cons (pe_fld (pv 2) rfl) (pa_cons (pe_fld (pv 2) rfl) pa_nil)))))) (pv 3)))))),?_⟩
  refine⟨_,rfl,_,rfl,c,t.c_Call,dc,_,_,rfl,hc,T.cl_Call,T.no_Call_numbers,rfl,ln,_,_,_,rfl,rfl,SqL.of hln,atI_nat (j:=0) rfl,h,st,n,rfl,hQ.at,_,rfl,?_⟩
  by_cases hl:n≤st.parties.length
  ·rw[decide_eq_true hl]
   refine iteF ?_
   have hx:st.parties[n-1]? =some (st.parties[n-1]'(by omega)):=List.getElem?_eq_getElem _
   generalize st.parties[n-1]'(by omega)=x at hx
   obtain⟨a,dp,bv,ha,h1,h2⟩:=party_there I hx
   refine⟨_,rfl,h,dx,_,rfl,I.self,rfl,_,rfl,c,t.c_Call,dc,_,_,rfl,hc,T.cl_Call,T.no_Call_numbers,rfl,ln,_,_,_,rfl,rfl,SqL.of hln,atI_nat (j:=0) rfl,?_⟩
   refine⟨h,st,n-1,congrArg (fun k:Nat=>[V.ref h,nV k]) (show n=n-1+1 by omega),dx,lb,lr,lp,bas,ras,pas,a,I,ha,?_⟩
   have hok:Vbhoae.step st (.party n)=(st,0::([Vbhoae.nat x.size,Vbhoae.nat x.from_,Vbhoae.nat x.to_,Vbhoae.nat x.stage]++Vbhoae.blockRow x.block)):=step_ok ho (by
    show(match Vbhoae.partyOf st n with | none=>_ | some x=>_)=_
    rw[partyOf_at hn,hx])
   have fin: ∀(H1:Hp) (l3:Addr),Same H H1→H1 l3=some (.lst ((Vbhoae.blockRow x.block).map V.int))→tRet (tOp rCat (tLst (tCons (tC (V.int 0)) (tCons (tFld K (tVar 2) "size") (tCons (tFld K (tVar 2) "time_from") (tCons (tFld K (tVar 2) "time_to") (tCons (tFld K (tVar 2) "stage") tNil)))))) (tVar 3)) {nx:=fun _ H'=>Q .non H',rt:=Q} [some (.ref h),some (.ref c),some (.ref a),some (.ref l3)] H1:=by
    intro H1 l3 s1 hl3
    have g:=s1 _ _ h1
    refine⟨_,rfl,a,t.c_Party,dp,_,_,rfl,g,T.cl_Party,T.no_Party_size,rfl,_,rfl,a,t.c_Party,dp,_,_,rfl,g,T.cl_Party,T.no_Party_time_from,rfl,_,rfl,a,t.c_Party,dp,_,_,rfl,g,T.cl_Party,T.no_Party_time_to,rfl,_,rfl,a,t.c_Party,dp,_,_,rfl,g,T.cl_Party,T.no_Party_stage,rfl,(by show 5≤sizeLine;decide),fun l4 hl4=>?_⟩
    have s4:=Same.new (o:= .lst [V.int 0,nV x.size,nV x.from_,nV x.to_,nV x.stage]) hl4
    refine⟨_,rfl,l4,l3,_,_,rfl,rfl,upd_same,s4 _ _ hl3,(by show 8≤sizeLine;decide),fun l9 hl9=>?_⟩
    have s14:=s1.trans s4
    refine k.told hQ (s14.trans (Same.new hl9)) (Same.none s14 hl9) ?_ hok
    rw[upd_same,List.map_cons,List.map_append]
    rfl
   refine⟨_,rfl,a,t.c_Party,dp,_,_,rfl,h1,T.cl_Party,T.no_Party_block,rfl,rfl,_,rfl,?_⟩
   rcases h2 with ⟨b1,cb,rfl,b3⟩ | ⟨b1,rfl⟩
   ·refine iteF ⟨_,rfl,a,t.c_Party,dp,_,_,rfl,h1,T.cl_Party,T.no_Party_block,rfl,cb,st.room,x.block,rfl,b3,fun l3 hl3=>?_⟩
    exact fin _ l3 (Same.new hl3) upd_same
   ·refine iteT ⟨(by show 3≤sizeLine;decide),fun l3 hl3=>?_⟩
    have hb0:=(G.pty x (List.mem_of_getElem? hx)).blk b1
    refine fin _ l3 (Same.new hl3) ?_
    rw[upd_same,hb0]
    rfl
  ·rw[decide_eq_false hl]
   refine iteT ⟨_,rfl,(by show 1≤sizeLine;decide),fun l1 hl1=>k.err hQ (Same.refl _) hl1 (step_err ho ?_)⟩
   show(match Vbhoae.partyOf st n with | none=>_ | some x=>_)=_
   rw[partyOf_at hn,List.getElem?_eq_none (by omega)]
theorem rows_flat_len: ∀{l:List (List Nat)},(∀r∈l,r.length≤8)→(l.flatMap fun r=>Vbhoae.nat r.length::r.map Vbhoae.nat).length ≤9*l.length
 | [],_=>Nat.zero_le _
 | r::l,h=>by
  have h1:=h r (List.mem_cons_self ..)
  have h2:=rows_flat_len fun x hx=>h x (List.mem_cons_of_mem _ hx)
  rw[List.flatMap_cons,List.length_append,List.length_cons,List.length_map,List.length_cons]
  omega
theorem room_facts{s:Vbhoae.State}(G:My.Good s)(ho:s.opened=true):s.room.rows.length=3∧(∀r∈s.room.rows,r.length≤8)∧(s.room.rows.map List.length).sum ≤8:=by
 obtain⟨a,b,c,e,_,hl⟩:=(G.room ho).three
 rw[e]
 refine⟨rfl,fun r hr=>?_,?_⟩
 ·simp only[List.mem_cons,List.not_mem_nil,or_false]at hr
  rcases hr with rfl | rfl | rfl<;>omega
 ·simp only[List.map_cons,List.map_nil,List.sum_cons,List.sum_nil]
  omega
theorem tif_val{σ:L2.St}{H:Hp}{Q:VK}{b:Bool}(h:Q (V.int (if b=true then 1 else 0)) H):if b=true then tC (V.int 1) σ H Q else tC (V.int 0) σ H Q:=by
 cases b<;>exact h
theorem ok_state_now(T:Txt K mg t):FnOk P w K mg base CX0 13 t.f_state_now t.d_state_now ["house","call"] (spDo t (isNone .state)):=by
 refine T.fu_state_now.ok sc_state_now (fun vs H Q E h=>?_) (fun cdv A outer s H vs Q E hr h=>?_)
 ·obtain⟨h,lp,c,q,s,p,xs,rs,e,cl,rfl,_⟩:=h
  rfl
 ·obtain⟨h,lp,c,q,st,p,xs,rs,e,cl,rfl,hQ,hqn,G,ho,⟨dc,ln,lr0,ras0,hc,hln,hlr,hrs,nr0,nrs0⟩,rfl,k⟩:=h
  have hop:st.opened=true:=ho.elim id fun z=>by cases z
  obtain⟨h5,hbl,hsz⟩:=open_facts G hop
  obtain⟨hr3,hr8,_⟩:=room_facts G hop
  obtain⟨dx,lb,lr,bas,ras,pas,I,nq1,nq2,nq3,nq4⟩:=id hQ
  have nd:=sc_state_now.nd
  obtain⟨k1,hk1⟩:=T.ct_AT_A_TABLE
  refine⟨_,pss_cons (ps_set (i:=2) nd rfl (Or.inl rfl) (pe_meth0 (pv 0) T.cl_House T.me_House_promised (ok_promised T) (hr.mono (by omega)) T.bi_House_promised .nil pass0))
   (pss_cons (ps_set (i:=3) nd rfl (Or.inl rfl) (pe_lst (pa_cons pe_int (pa_cons (pe_fld (pv 0) rfl) (pa_cons (pe_callB call_len_seq rfl T.bn_len PySem.boot_len (pa_cons (pe_fld (pv 0) rfl) pa_nil)) (pa_cons (pe_callB call_len_seq rfl T.bn_len PySem.boot_len (pa_cons (pv 2) pa_nil))
     (pa_cons (pe_callB call_len_seq rfl T.bn_len PySem.boot_len (pa_cons (pe_meth (pv 0) T.cl_House T.me_House_at_stage (ok_at_stage T) (hr.mono (by omega)) T.bi_House_at_stage .nil pass0 (pa_cons (pe_glob (v:= .int 1) rfl hk1 ⟨_,rfl⟩) pa_nil)) pa_nil)) pa_nil)))))))
   (pss_cons (ps_expr (pe_bm PySem.F.plainAttrs_list PySem.F.slot_list_extend PySem.F.type_list_extend mt_extend (pv 3) (pa_cons (pe_lst (pa_cons (pe_ifExp (pt_val (pe_meth (pv 0) T.cl_House T.me_House_can_keep (ok_can_keep T) hr T.bi_House_can_keep .nil pass0 (pa_cons (pv 2) pa_nil))) pe_int pe_int) (pa_cons (pe_fld (pv 0) rfl) (pa_cons (pe_fld (pv 0) rfl) pa_nil)))) pa_nil)))
   (pss_cons (ps_for PassesOwn.never rfl (pi_list (pe_fld (pv 0) rfl)) (pg_name (i:=4) nd rfl (Or.inl rfl))
    (pss_cons (ps_expr (pe_bm PySem.F.plainAttrs_list PySem.F.slot_list_append PySem.F.type_list_append mt_append (pv 3) (pa_cons (pe_callB call_len_seq rfl T.bn_len PySem.boot_len (pa_cons (pv 4) pa_nil)) pa_nil)))
    (pss_one (ps_expr (pe_bm PySem.F.plainAttrs_list PySem.F.slot_list_extend PySem.F.type_list_extend mt_extend (pv 3) (pa_cons (pv 4) pa_nil))))))
   (pss_one (ps_ret (pv 3)))))),?_⟩
  refine⟨_,rfl,h,dx,_,rfl,I.self,rfl,?_⟩
  refine⟨h,st,rfl,hQ.at,fun H1 l1 as s1 n1 hl1 hP1=>?_⟩
  have I1:=I.same s1
  refine⟨_,rfl,h,t.c_House,dx,_,_,rfl,I1.self,T.cl_House,T.no_House_now,rfl,_,rfl,h,t.c_House,dx,_,_,rfl,I1.self,T.cl_House,T.no_House_parties,rfl,lp,_,rfl,.inl (SqL.of I1.lp),_,rfl,l1,_,rfl,.inl (SqL.of hl1),_,rfl,h,dx,_,rfl,I1.self,rfl,?_⟩
  refine⟨h,st,1,rfl,⟨dx,lb,lr,lp,bas,ras,pas,I1⟩,fun H2 l2 as2 s2 n2 hl2 hP2=>?_⟩
  refine⟨l2,_,rfl,.inl (SqL.of hl2),(by show 5≤sizeLine;decide),fun D hD=>?_⟩
  have e1:(((pas.map V.ref).length :Nat):Int)=Vbhoae.nat st.parties.length:=by rw[List.length_map,pas_len I];rfl
  have e2:(((as.map V.ref).length :Nat):Int)=Vbhoae.nat (Vbhoae.waitingCount st):=by rw[List.length_map,Paired.length hP1,My.waiting_prom];rfl
  have e3:(((as2.map V.ref).length :Nat):Int)=Vbhoae.nat (st.parties.filter fun p=>decide (p.stage=1)).length :=by
   rw[List.length_map,Paired.length hP2]
   have key: ∀(l:List Vbhoae.Party) (k:Nat),((l.zipIdx k).filter fun x=>decide (x.1.stage=1)).length =(l.filter fun p=>decide (p.stage=1)).length :=by
    intro l
    induction l with
    | nil=>intro k;rfl
    | cons p l ih=>
     intro k
     rw[List.zipIdx_cons,List.filter_cons,List.filter_cons]
     by_cases hp:p.stage=1
     ·rw[if_pos (decide_eq_true hp),if_pos (decide_eq_true hp),List.length_cons,List.length_cons,ih]
     ·rw[if_neg (fun z=>hp (of_decide_eq_true z)),if_neg (fun z=>hp (of_decide_eq_true z)),ih]
   unfold atStage
   rw[key]
   rfl
  rw[e1,e2,e3]
  have s12:=s1.trans s2
  have s3:Same H2 (upd H2 D (.lst [V.int 0,nV st.now,V.int (Vbhoae.nat st.parties.length),V.int (Vbhoae.nat (Vbhoae.waitingCount st)),V.int (Vbhoae.nat (st.parties.filter fun p=>decide (p.stage=1)).length)])):=Same.new hD
  have hD3:upd H2 D (.lst [V.int 0,nV st.now,V.int (Vbhoae.nat st.parties.length),V.int (Vbhoae.nat (Vbhoae.waitingCount st)),V.int (Vbhoae.nat (st.parties.filter fun p=>decide (p.stage=1)).length)]) D=some (.lst [V.int 0,nV st.now,V.int (Vbhoae.nat st.parties.length),V.int (Vbhoae.nat (Vbhoae.waitingCount st)),V.int (Vbhoae.nat (st.parties.filter fun p=>decide (p.stage=1)).length)]):=upd_same
  generalize upd H2 D (.lst [V.int 0,nV st.now,V.int (Vbhoae.nat st.parties.length),V.int (Vbhoae.nat (Vbhoae.waitingCount st)),V.int (Vbhoae.nat (st.parties.filter fun p=>decide (p.stage=1)).length)])=H3 at s3 hD3 ⊢
  have s13:=s12.trans s3
  have I3:=I.same s13
  have s23:=s2.trans s3
  refine⟨_,rfl,.inl ⟨rfl,_,SqL.of hD3⟩,_,rfl,h,dx,_,rfl,I3.self,rfl,_,rfl,?_⟩
  refine⟨h,l1,st,as,My.prom st,rfl,⟨dx,lb,lr,lp,bas,ras,pas,I3⟩,SqL.of (s23 _ _ hl1),Paired.mapP hP1 fun _ _ z=>z.same s23,hbl,hsz,by omega,fun H4 b s4 hb=>⟨_,rfl,?_⟩⟩
  have hb':b=true↔Vbhoae.sound st=true:=hb.trans (My.sound_prom G).symm
  have I4:=I.same (s13.trans s4)
  have hD4:=s4 _ _ hD3
  refine tif_val ?_
  have hbs:b=Vbhoae.sound st:=Bool.eq_iff_iff.mpr hb'
  subst hbs
  refine⟨_,rfl,h,t.c_House,dx,_,_,rfl,I4.self,T.cl_House,T.no_House_loss,rfl,_,rfl,h,t.c_House,dx,_,_,rfl,I4.self,T.cl_House,T.no_House_clearing,rfl,(by show 3≤sizeLine;decide),fun l5 hl5=>?_⟩
  have s5:Same H4 (upd H4 l5 (.lst [V.int (if Vbhoae.sound st=true then 1 else 0),nV st.room.loss,nV st.clearing])):=Same.new hl5
  have hl5':upd H4 l5 (.lst [V.int (if Vbhoae.sound st=true then 1 else 0),nV st.room.loss,nV st.clearing]) l5=some (.lst [V.int (if Vbhoae.sound st=true then 1 else 0),nV st.room.loss,nV st.clearing]):=upd_same
  generalize upd H4 l5 (.lst [V.int (if Vbhoae.sound st=true then 1 else 0),nV st.room.loss,nV st.clearing])=H5 at s5 hl5' ⊢
  have hD5:=s5 _ _ hD4
  refine⟨D,l5,_,_,rfl,rfl,hD5,hl5',(by show 8≤sizeLine;decide),?_⟩
  have s25:=(s3.trans s4).trans s5
  let pre:List Int:=[0,Vbhoae.nat st.now,Vbhoae.nat st.parties.length,Vbhoae.nat (Vbhoae.waitingCount st),Vbhoae.nat (st.parties.filter fun p=>decide (p.stage=1)).length,Vbhoae.flag (Vbhoae.sound st),Vbhoae.nat st.room.loss,Vbhoae.nat st.clearing]
  have s6:Same H2 (upd H5 D (.lst (pre.map V.int))):=fun b o e=>by
   rw[upd_ne (ne_of_none e hD)]
   exact s25 _ _ e
  have hD6:upd H5 D (.lst (pre.map V.int)) D=some (.lst (pre.map V.int)):=upd_same
  show VarQ _ _ _ _
  have e0:upd H5 D (.lst ([V.int 0,nV st.now,V.int (Vbhoae.nat st.parties.length),V.int (Vbhoae.nat (Vbhoae.waitingCount st)),V.int (Vbhoae.nat (st.parties.filter fun p=>decide (p.stage=1)).length)]++[V.int (if Vbhoae.sound st=true then 1 else 0),nV st.room.loss,nV st.clearing]))=upd H5 D (.lst (pre.map V.int)):=rfl
  rw[e0]
  generalize upd H5 D (.lst (pre.map V.int))=H6 at s6 hD6 ⊢
  have I6:=I.same (s12.trans s6)
  have lrr:=Paired.length I6.rs
  refine⟨_,rfl,h,t.c_House,dx,_,_,rfl,I6.self,T.cl_House,T.no_House_rows,rfl,lr,rfl,⟨_,SqL.of I6.lr⟩,?_⟩
  refine for_list (K:=K) (a:=lr) (xs:=ras.map V.ref) (fun i σ H'=> ∃v4:Option V,σ=[some (.ref h),some (.ref c),some (.ref l1),some (.ref D),v4]∧Same H2 H'∧H' D=some (.lst ((pre++(st.room.rows.take i).flatMap fun r=>Vbhoae.nat r.length::r.map Vbhoae.nat).map V.int)))
   ⟨none,rfl,s6,by rw[hD6];simp⟩ (fun i σ H' _ ⟨_,_,s7,_⟩=>SqL.of ((I.same (s12.trans s7)).lr)) ?_ ?_
  ·rintro i y σ H' hi ⟨v4,rfl,s7,hD7⟩
   rw[List.getElem?_map]at hi
   obtain⟨ra,hra,rfl⟩:=Option.map_eq_some_iff.mp hi
   obtain⟨row,hrow,hrw⟩:=paired_at (I.same (s12.trans s7)).rs hra
   have hr8':=hr8 row (List.mem_of_getElem? hrow)
   have fl:((st.room.rows.take i).flatMap fun r=>Vbhoae.nat r.length::r.map Vbhoae.nat).length ≤27:=by
    have q1:=rows_flat_len (l:=st.room.rows.take i) fun r hr=>hr8 r (List.mem_of_mem_take hr)
    rw[List.length_take]at q1
    omega
   have ndD:ra≠D:=fun z=>by
    have q1:=I.rs
    obtain⟨row2,_,q2⟩:=paired_at q1 hra
    rw[z]at q2
    rw[s12 _ _ q2]at hD
    cases hD
   refine⟨_,rfl,.inl ⟨rfl,_,SqL.of hD7⟩,_,rfl,ra,_,rfl,.inl (SqL.of hrw),D,_,_,rfl,rfl,hD7,?_,?_⟩
   ·rw[List.length_map,List.length_append]
    refine small1000 ?_
    show 8+_≤1000
    omega
   refine⟨_,rfl,.inl ⟨rfl,_,SqL.of upd_same⟩,_,rfl,D,ra,_,_,rfl,rfl,upd_same,by rw[upd_ne ndD];exact hrw,?_,some (.ref ra),rfl,fun e o eo=>?_,?_⟩
   ·rw[List.length_append,List.length_map,List.length_append,List.length_map,sizeLine_eq]
    show 8+_+1+row.length≤_
    omega
   ·have nD:e≠D:=ne_of_none eo hD
    rw[upd_ne nD,upd_ne nD]
    exact s7 _ _ eo
   ·rw[upd_same,List.take_add_one,hrow,List.flatMap_append]
    simp only[List.map_append,List.append_assoc]
    congr 3
    simp[Vbhoae.nat]
  ·rintro σ H' ⟨v4,rfl,s7,hD7⟩
   have er:st.room.rows.take (ras.map V.ref).length =st.room.rows:=by rw[List.length_map,lrr,List.take_length]
   rw[er]at hD7
   exact⟨_,rfl,k.told hQ (s12.trans s7) (Same.none s12 hD) hD7 (step_ok ho rfl)⟩
theorem tell_len(s:Vbhoae.State)(x:Option (Vbhoae.Party×Nat)):(My.tellUser s x).length =2:=by
 cases x<;>rfl
theorem tells_len(s:Vbhoae.State): ∀l:List Nat,(l.flatMap fun p=>My.tellUser s ((My.users s s.now).find? (My.onPlace s p))).length =2*l.length
 | []=>rfl
 | p::l=>by
  rw[List.flatMap_cons,List.length_append,tell_len,tells_len s l,List.length_cons]
  omega
theorem ok_tables_now(T:Txt K mg t):FnOk P w K mg base CX0 4 t.f_tables_now t.d_tables_now ["house","call"] (spDo t (isNone .tables)):=by
 refine T.fu_tables_now.ok sc_tables_now (fun vs H Q E h=>?_) (fun cdv A outer s H vs Q E hr h=>?_)
 ·obtain⟨h,lp,c,q,s,p,xs,rs,e,cl,rfl,_⟩:=h
  rfl
 ·obtain⟨h,lp,c,q,st,p,xs,rs,e,cl,rfl,hQ,hqn,G,ho,⟨dc,ln,lr0,ras0,hc,hln,hlr,hrs,nr0,nrs0⟩,rfl,k⟩:=h
  have hop:st.opened=true:=ho.elim id fun z=>by cases z
  obtain⟨hr3,hr8,hrt⟩:=room_facts G hop
  obtain⟨dx,lb,lr,bas,ras,pas,I,nq1,nq2,nq3,nq4⟩:=id hQ
  have nd:=sc_tables_now.nd
  refine⟨_,pss_cons (ps_set (i:=2) nd rfl (Or.inl rfl) (pe_lst (pa_cons pe_int pa_nil)))
   (pss_cons (ps_for PassesOwn.never rfl (pi_range1 rfl T.bn_range (pa_cons (pe_call (ok_count_of_tables T) (hr.mono (by omega)) rfl T.mg_count_of_tables T.fu_count_of_tables.kp T.bi_count_of_tables .nil pass0 (pa_cons (pe_fld (pv 0) rfl) pa_nil)) pa_nil)) (pg_name (i:=3) nd rfl (Or.inl rfl))
    (pss_cons (ps_set (i:=4) nd rfl (Or.inl rfl) (pe_meth (pv 0) T.cl_House T.me_House_user_of_table (ok_user_of_table T) hr T.bi_House_user_of_table .nil pass0 (pa_cons (pv 3) pa_nil)))
    (pss_one (ps_if (pt_cmpR op_isN (pv 4) pe_non (nomark _))
     (pss_one (ps_expr (pe_bm PySem.F.plainAttrs_list PySem.F.slot_list_extend PySem.F.type_list_extend mt_extend (pv 2) (pa_cons (pe_lst (pa_cons pe_int (pa_cons pe_int pa_nil))) pa_nil))))
     (pss_one (ps_expr (pe_bm PySem.F.plainAttrs_list PySem.F.slot_list_extend PySem.F.type_list_extend mt_extend (pv 2) (pa_cons (pe_lst (pa_cons (pe_fld (pv 4) rfl) (pa_cons (pe_meth (pv 0) T.cl_House T.me_House_end_of_use (ok_end_of_use T) (hr.mono (by omega)) T.bi_House_end_of_use .nil pass0 (pa_cons (pe_fld (pv 4) rfl) pa_nil)) pa_nil))) pa_nil))))))))
   (pss_one (ps_ret (pv 2)))),?_⟩
  refine⟨(by show 1≤sizeLine;decide),fun D hD=>?_⟩
  have s1:Same H (upd H D (.lst [V.int 0])):=Same.new hD
  have hD1:upd H D (.lst [V.int 0]) D=some (.lst [V.int 0]):=upd_same
  generalize upd H D (.lst [V.int 0])=H1 at s1 hD1 ⊢
  have I1:=I.same s1
  refine⟨_,rfl,h,t.c_House,dx,_,_,rfl,I1.self,T.cl_House,T.no_House_rows,rfl,?_⟩
  have lens:Paired (fun a n=> ∃ys:List V,SqL K H1 a ys∧ys.length=n) ras (st.room.rows.map List.length):=paired_of (by rw[List.length_map];exact Paired.length I1.rs) fun i a n ha hn=>by
   obtain⟨row,hrow,q2⟩:=paired_at I1.rs ha
   rw[List.getElem?_map,hrow]at hn
   cases hn
   exact⟨_,SqL.of q2,List.length_map ..⟩
  refine⟨lr,ras,st.room.rows.map List.length,rfl,SqL.of I1.lr,lens,by rw[List.length_map];omega,fun H2 s2=>?_⟩
  generalize hN:(st.room.rows.map List.length).sum =N at hrt
  have hD2:=s2 _ _ hD1
  have s12:=s1.trans s2
  refine⟨_,rfl,by omega,by omega,?_⟩
  rw[show((N:Nat):Int).toNat =N by omega]
  refine for_range (lo:=0) (n:=N) (fun i σ H'=> ∃(v3 v4:Option V),σ=[some (.ref h),some (.ref c),some (.ref D),v3,v4]∧Same H H'∧H' D=some (.lst ((0::(List.range i).flatMap fun p=>My.tellUser st ((My.users st st.now).find? (My.onPlace st p))).map V.int)))
   ⟨none,none,rfl,s12,hD2⟩ ?_ ?_
  ·rintro i σ H' hi ⟨v3,v4,rfl,s5,hD5⟩
   have ei:(0:Int)+((i:Nat):Int)=((i:Nat):Int):=by omega
   rw[ei]
   have I5:=I.same s5
   refine⟨_,rfl,h,dx,_,rfl,I5.self,rfl,_,rfl,?_⟩
   refine⟨h,st,i,rfl,⟨dx,lb,lr,lp,bas,ras,pas,I5⟩,by omega,fun H6 v s6 hv=>?_⟩
   have s56:=s5.trans s6
   have I6:=I.same s56
   have hD6:=s6 _ _ hD5
   have hlen:((0::(List.range i).flatMap fun p=>My.tellUser st ((My.users st st.now).find? (My.onPlace st p))).map V.int).length ≤100:=by
    rw[List.length_map,List.length_cons,tells_len,List.length_range]
    omega
   refine⟨_,rfl,rfl,_,rfl,?_⟩
   have next: ∀(H7:Hp) (l7:Addr) (ns:List Int),Same H6 H7→H7 l7=some (.lst (ns.map V.int))→ns=My.tellUser st ((My.users st st.now).find? (My.onPlace st i))→
     Same H (upd H7 D (.lst ((0::(List.range i).flatMap fun p=>My.tellUser st ((My.users st st.now).find? (My.onPlace st p))).map V.int++ns.map V.int)))∧upd H7 D (.lst ((0::(List.range i).flatMap fun p=>My.tellUser st ((My.users st st.now).find? (My.onPlace st p))).map V.int++ns.map V.int)) D=some (.lst ((0::(List.range (i+1)).flatMap fun p=>My.tellUser st ((My.users st st.now).find? (My.onPlace st p))).map V.int)):=by
    intro H7 l7 ns s7 _ e
    refine⟨fun b o eo=>?_,?_⟩
    ·rw[upd_ne (ne_of_none eo hD)]
     exact s7 _ _ (s56 _ _ eo)
    ·rw[upd_same,e,List.range_succ,List.flatMap_append,←List.map_append]
     simp
   cases hf:(My.users st st.now).find? (My.onPlace st i)with
   | none=>
    rw[hf]at hv
    obtain rfl:v= .non :=hv
    refine iteT ⟨_,rfl,.inl ⟨rfl,_,SqL.of hD6⟩,(by show 2≤sizeLine;decide),fun l7 hl7=>?_⟩
    have s7:=Same.new (o:= .lst [V.int 0,V.int 0]) hl7
    obtain⟨g1,g2⟩:=next _ l7 [0,0] s7 upd_same (by rw[hf];rfl)
    refine⟨D,l7,_,_,rfl,rfl,s7 _ _ hD6,upd_same,?_,_,_,rfl,g1,g2⟩
    refine Nat.le_trans (Nat.add_le_add_right hlen 2) ?_
    rw[sizeLine_eq]
    omega
   | some x=>
    rw[hf]at hv
    obtain⟨a,rfl,dp,bv,hpa,_⟩:=hv
    refine iteF ⟨_,rfl,.inl ⟨rfl,_,SqL.of hD6⟩,_,rfl,a,t.c_Party,dp,_,_,rfl,hpa,T.cl_Party,T.no_Party_number,rfl,_,rfl,h,dx,_,rfl,I6.self,rfl,_,rfl,a,t.c_Party,dp,_,_,rfl,hpa,T.cl_Party,T.no_Party_time_to,rfl,?_⟩
    refine⟨h,st,x.1.to_,rfl,⟨dx,lb,lr,lp,bas,ras,pas,I6⟩,?_⟩
    refine⟨(by show 2≤sizeLine;decide),fun l7 hl7=>?_⟩
    have s7:=Same.new (o:= .lst [nV x.2,nV (x.1.to_+st.clearing)]) hl7
    obtain⟨g1,g2⟩:=next _ l7 [Vbhoae.nat x.2,Vbhoae.nat (x.1.to_+st.clearing)] s7 upd_same (by rw[hf];rfl)
    refine⟨D,l7,_,_,rfl,rfl,s7 _ _ hD6,upd_same,?_,_,_,rfl,g1,g2⟩
    refine Nat.le_trans (Nat.add_le_add_right hlen 2) ?_
    rw[sizeLine_eq]
    omega
  ·rintro σ H' ⟨v3,v4,rfl,s5,hD5⟩
   refine⟨_,rfl,k.told hQ s5 hD hD5 (step_ok ho ?_)⟩
   show Except.ok (st,(st.room.rows.zipIdx 1).flatMap fun x=>(List.range x.1.length).flatMap fun i=>Vbhoae.atTable st x.2 (i+1))=_
   rw[My.tables_eq G,hN]
theorem masks_inj{r:Vbhoae.Room}: ∀{a b:List Vbhoae.Block},a.map (My.mask r)=b.map (My.mask r)→(∀x∈a,x∈Vbhoae.blocks r)→(∀x∈b,x∈Vbhoae.blocks r)→a=b
 | [],[],_,_,_=>rfl
 | [],_::_,h,_,_=>by cases h
 | _::_,[],h,_,_=>by cases h
 | x::a,y::b,h,h1,h2=>by
  rw[List.map_cons,List.map_cons]at h
  obtain⟨e1,e2⟩:=List.cons.inj h
  rw[My.mask_inj (My.mem_blocks (h1 x (List.mem_cons_self ..))) (My.mem_blocks (h2 y (List.mem_cons_self ..))) e1,masks_inj e2 (fun z hz=>h1 z (List.mem_cons_of_mem _ hz)) fun z hz=>h2 z (List.mem_cons_of_mem _ hz)]
def planTold(l:List (Vbhoae.Party×Nat))(bs:List Vbhoae.Block):List Int:=(l.zip bs).flatMap fun y=>Vbhoae.nat y.1.2::Vbhoae.blockRow y.2
theorem planTold_len(l:List (Vbhoae.Party×Nat))(bs:List Vbhoae.Block):(planTold l bs).length ≤4*l.length:=by
 have key: ∀L:List ((Vbhoae.Party×Nat)×Vbhoae.Block),(L.flatMap fun y=>Vbhoae.nat y.1.2::Vbhoae.blockRow y.2).length =4*L.length:=by
  intro L
  induction L with
  | nil=>rfl
  | cons y L ih=>
   rw[List.flatMap_cons,List.length_append,ih,List.length_cons,List.length_cons,row_len]
   omega
 unfold planTold
 rw[key,List.length_zip]
 omega
theorem byTime_len(s:Vbhoae.State):(byTime s).length =(My.prom s).length :=by
 have h1:=congrArg List.length (byTime_eq s)
 rw[List.length_map]at h1
 rw[←h1,(My.promised_perm s).length_eq,List.length_map]
theorem byTime_mem{s:Vbhoae.State}{x:Vbhoae.Party×Nat}(h:x∈byTime s):x∈My.prom s:=isort_mem h
theorem ok_plan(T:Txt K mg t):FnOk P w K mg base CX0 14 t.f_plan t.d_plan ["house","call"] (spDo t (isNone .plan)):=by
 refine T.fu_plan.ok sc_plan (fun vs H Q E h=>?_) (fun cdv A outer s H vs Q E hr h=>?_)
 ·obtain⟨h,lp,c,q,s,p,xs,rs,e,cl,rfl,_⟩:=h
  rfl
 ·obtain⟨h,lp,c,q,st,p,xs,rs,e,cl,rfl,hQ,hqn,G,ho,⟨dc,ln,lr0,ras0,hc,hln,hlr,hrs,nr0,nrs0⟩,rfl,k⟩:=h
  have hop:st.opened=true:=ho.elim id fun z=>by cases z
  obtain⟨h5,hbl,hsz⟩:=open_facts G hop
  obtain⟨dx,lb,lr,bas,ras,pas,I,nq1,nq2,nq3,nq4⟩:=id hQ
  have nd:=sc_plan.nd
  refine⟨_,pss_cons (ps_set (i:=2) nd rfl (Or.inl rfl) (pe_meth0 (pv 0) T.cl_House T.me_House_promised_by_time (ok_promised_by_time T) (hr.mono (by omega)) T.bi_House_promised_by_time .nil pass0))
   (pss_cons (ps_if (pt_not (pt_val (pe_meth (pv 0) T.cl_House T.me_House_can_keep (ok_can_keep T) (hr.mono (by omega)) T.bi_House_can_keep .nil pass0 (pa_cons (pv 2) pa_nil)))) (pss_one (ps_ret (pe_lst (pa_cons (pe_un un_neg pe_int) pa_nil)))) pss_nil)
   (pss_cons (ps_set (i:=3) nd rfl (Or.inl rfl) (pe_lst (pa_cons pe_int (pa_cons (pe_callB call_len_seq rfl T.bn_len PySem.boot_len (pa_cons (pv 2) pa_nil)) pa_nil))))
   (pss_cons (ps_for PassesOwn.never rfl (pi_zip rfl T.bn_zip (pa_cons (pv 2) (pa_cons (pe_meth (pv 0) T.cl_House T.me_House_blocks_told (ok_blocks_told T) hr T.bi_House_blocks_told .nil pass0 (pa_cons (pv 2) pa_nil)) pa_nil)))
     (pg_tup (n:=2) rfl (pgs_cons (pg_name (i:=4) nd rfl (Or.inl rfl)) (pgs_cons (pg_name (i:=5) nd rfl (Or.inl rfl)) pgs_nil)))
    (pss_cons (ps_expr (pe_bm PySem.F.plainAttrs_list PySem.F.slot_list_append PySem.F.type_list_append mt_append (pv 3) (pa_cons (pe_fld (pv 4) rfl) pa_nil)))
    (pss_one (ps_expr (pe_bm PySem.F.plainAttrs_list PySem.F.slot_list_extend PySem.F.type_list_extend mt_extend (pv 3) (pa_cons (pe_call (ok_block_told T) (hr.mono (by omega)) rfl T.mg_block_told T.fu_block_told.kp T.bi_block_told .nil pass0 (pa_cons (pv 5) pa_nil)) pa_nil))))))
   (pss_one (ps_ret (pv 3)))))),?_⟩
  refine⟨_,rfl,h,dx,_,rfl,I.self,rfl,?_⟩
  refine⟨h,st,rfl,hQ.at,fun H1 l1 as s1 n1 hl1 hP1=>?_⟩
  have hbt:=byTime_eq st
  have hbl5:=byTime_len st
  have hbsz: ∀x∈byTime st,1≤x.1.size:=fun x hx=>hsz x (byTime_mem hx)
  generalize byTime st=L at hP1 hbt hbl5 hbsz
  have I1:=I.same s1
  refine⟨_,rfl,h,dx,_,rfl,I1.self,rfl,_,rfl,?_⟩
  refine⟨h,l1,st,as,L,rfl,⟨dx,lb,lr,lp,bas,ras,pas,I1⟩,SqL.of hl1,hP1,hbl,hbsz,by omega,fun H2 b s2 hb=>⟨_,rfl,?_⟩⟩
  have s12:=s1.trans s2
  cases b with
  | false=>
   refine iteT ⟨_,rfl,(by show 1≤sizeLine;decide),fun l9 hl9=>k.err hQ s12 hl9 (step_err ho ?_)⟩
   show(match Vbhoae.seating st.room (Vbhoae.used st) (Vbhoae.wishes st (Vbhoae.promised st))with | none=>_ | some l=>_)=_
   rw[My.plan_no G hbt fun z=>Bool.false_ne_true (hb.mpr z)]
  | true=>
   refine iteF ?_
   have hg:=hb.mp rfl
   have I2:=I.same s12
   have hl2:=s2 _ _ hl1
   have ll:=Paired.length hP1
   refine⟨_,rfl,l1,_,rfl,.inl (SqL.of hl2),(by show 2≤sizeLine;decide),fun D hD=>?_⟩
   have el:(((as.map V.ref).length :Nat):Int)=Vbhoae.nat L.length:=by rw[List.length_map,ll];rfl
   rw[el]
   have s3:Same H2 (upd H2 D (.lst [V.int 0,V.int (Vbhoae.nat L.length)])):=Same.new hD
   have hD3:upd H2 D (.lst [V.int 0,V.int (Vbhoae.nat L.length)]) D=some (.lst [V.int 0,V.int (Vbhoae.nat L.length)]):=upd_same
   generalize upd H2 D (.lst [V.int 0,V.int (Vbhoae.nat L.length)])=H3 at s3 hD3 ⊢
   have s13:=s12.trans s3
   have s23:=s2.trans s3
   have I3:=I.same s13
   refine⟨_,rfl,_,rfl,h,dx,_,rfl,I3.self,rfl,_,rfl,?_⟩
   refine⟨h,l1,st,as,L,rfl,⟨dx,lb,lr,lp,bas,ras,pas,I3⟩,SqL.of (s3 _ _ hl2),Paired.mapP hP1 fun _ _ z=>z.same s23,hbl,hbsz,by omega,hg,fun ts hts=>?_,fun H4 q4 cs bs s4 n4 hq4 hB4 hT4 hbs4 hlb=>?_⟩
   ·obtain⟨bs,_,e2,e3⟩:=My.plan_at G hbt hts
    exact⟨bs,e2,e3⟩
   obtain⟨bs',f1,f2,f3⟩:=My.plan_at G hbt hT4
   obtain rfl:bs=bs':=masks_inj f2 hbs4 f3
   have s34:=s3.trans s4
   have hl4:=s34 _ _ hl2
   have hD4:=s4 _ _ hD3
   have nDl:l1≠D:=ne_of_none hl2 hD
   have nDq:q4≠D:=fun z=>by rw[z,hD3]at n4;cases n4
   have lc:=Paired.length hB4
   have hP4:Paired (PtyAt t H4 st.room) as L:=Paired.mapP hP1 fun _ _ z=>z.same (s2.trans s34)
   refine⟨l1,q4,_,_,rfl,SqL.of hl4,SqL.of hq4,?_⟩
   refine for_zip (K:=K) (a:=l1) (b:=q4) (xs:=as.map V.ref) (ys:=cs.map V.ref) (fun i σ H'=> ∃(v4 v5:Option V),σ=[some (.ref h),some (.ref c),some (.ref l1),some (.ref D),v4,v5]∧(∀b o,H4 b=some o→b≠D→H' b=some o)∧H' D=some (.lst ((0::Vbhoae.nat L.length::planTold (L.take i) (bs.take i)).map V.int)))
    ⟨none,none,rfl,fun _ _ e _=>e,hD4⟩ (by rw[List.length_map,List.length_map,lc,hlb,ll];exact Nat.le_refl _) (fun i σ H' _ ⟨_,_,_,s5,_⟩=>⟨SqL.of (s5 _ _ hl4 nDl),SqL.of (s5 _ _ hq4 nDq)⟩) ?_ ?_
   ·rintro i y z σ H' T0 hi hi2 ⟨v4,v5,rfl,s5,hD5⟩ hT0
    rw[List.getElem?_map]at hi hi2
    obtain⟨a,ha,rfl⟩:=Option.map_eq_some_iff.mp hi
    obtain⟨cb,hcb,rfl⟩:=Option.map_eq_some_iff.mp hi2
    obtain⟨x,hx,dp,bv,hpa,_⟩:=paired_at hP4 ha
    obtain⟨b,hb2,db,hba⟩:=paired_at hB4 hcb
    have s6:Same H' (upd H' T0 (.tup [.ref a,.ref cb])):=Same.new hT0
    have hD6:=s6 _ _ hD5
    have nDa:a≠D:=ne_of hpa hD4 (by intro z;cases z)
    have nDc:cb≠D:=ne_of hba hD4 (by intro z;cases z)
    have ga:=s6 _ _ (s5 _ _ hpa nDa)
    have hlen:=planTold_len (L.take i) (bs.take i)
    rw[List.length_take]at hlen
    refine⟨T0,_,rfl,SqT.of upd_same,rfl,_,_,rfl,_,_,rfl,rfl,?_⟩
    refine⟨_,rfl,.inl ⟨rfl,_,SqL.of hD6⟩,_,rfl,a,t.c_Party,dp,_,_,rfl,ga,T.cl_Party,T.no_Party_number,rfl,D,_,_,rfl,rfl,hD6,?_,?_⟩
    ·rw[List.length_map,List.length_cons,List.length_cons]
     exact small1000 (by omega)
    have gb:upd (upd H' T0 (.tup [.ref a,.ref cb])) D (.lst ((0::Vbhoae.nat L.length::planTold (L.take i) (bs.take i)).map V.int++[nV x.2])) cb=some (.ins t.c_Block db (blkF b.row b.first b.last (Vbhoae.seats st.room b) (My.less st.room b) (My.mask st.room b))):=by
     rw[upd_ne nDc]
     exact s6 _ _ (s5 _ _ hba nDc)
    refine⟨_,rfl,.inl ⟨rfl,_,SqL.of upd_same⟩,_,rfl,cb,st.room,b,rfl,⟨db,gb⟩,fun l7 hl7=>?_⟩
    have s7:=Same.new (o:= .lst ((Vbhoae.blockRow b).map V.int)) hl7
    refine⟨D,l7,_,_,rfl,rfl,s7 _ _ upd_same,upd_same,?_,some (.ref a),some (.ref cb),rfl,fun e o eo ne=>?_,?_⟩
    ·rw[List.length_append,List.length_map,List.length_map,List.length_cons,List.length_cons,row_len,sizeLine_eq]
     show _+1+1+1+3≤_
     omega
    ·rw[upd_ne ne]
     refine s7 _ _ ?_
     rw[upd_ne ne]
     exact s6 _ _ (s5 _ _ eo ne)
    ·have ep:planTold (L.take (i+1)) (bs.take (i+1))=planTold (L.take i) (bs.take i)++(Vbhoae.nat x.2::Vbhoae.blockRow b):=by
      unfold planTold
      rw[List.take_add_one,List.take_add_one,hx,hb2,List.zip_append (by rw[List.length_take,List.length_take,hlb]),List.flatMap_append]
      simp
     rw[upd_same,ep]
     simp[Vbhoae.nat]
   ·rintro σ H' ⟨v4,v5,rfl,s5,hD5⟩
    have e1:L.take (as.map V.ref).length =L:=by rw[List.length_map,ll,List.take_length]
    have e2:bs.take (as.map V.ref).length =bs:=by rw[List.length_map,ll,←hlb,List.take_length]
    rw[e1,e2]at hD5
    have sF:Same H H':=fun b o e=>by
     have nb:b≠D:=ne_of_none (s12 _ _ e) hD
     exact s5 _ _ (s34 _ _ (s12 _ _ e)) nb
    refine⟨_,rfl,k.told hQ sF (Same.none s12 hD) hD5 (step_ok ho ?_)⟩
    show(match Vbhoae.seating st.room (Vbhoae.used st) (Vbhoae.wishes st (Vbhoae.promised st))with | none=>_ | some l=>_)=_
    rw[f1]
    show Except.ok (st,Vbhoae.nat bs.length::((Vbhoae.promised st).zip bs).flatMap fun x=>Vbhoae.nat x.1.1::Vbhoae.blockRow x.2)=_
    rw[hlb,hbt,List.zip_map_left,List.flatMap_map]
    rfl
theorem without_at{s:Vbhoae.State}{l:List Nat}{j:Nat}{p:Vbhoae.Party}(h:s.parties[j]? =some p): ∃p',(Vbhoae.without s l).parties[j]? =some p'∧(p'=p∨p'={p with stage:=5}):=by
 show ∃p',((s.parties.zipIdx 1).map fun x=>if l.contains x.2=true then{x.1 with stage:=5}else x.1)[j]? =some p'∧_
 rw[List.getElem?_map,List.getElem?_zipIdx,h]
 refine⟨_,rfl,?_⟩
 dsimp only
 split
 ·exact .inr rfl
 ·exact .inl rfl
theorem prom_at{s:Vbhoae.State}{x:Vbhoae.Party×Nat}(h:x∈My.prom s):s.parties[x.2-1]? =some x.1∧x.1.stage=0∧1≤x.2:=by
 have h1:=List.mem_filter.mp h
 have h2:=List.mem_zipIdx h1.1
 refine⟨?_,of_decide_eq_true h1.2,h2.1⟩
 rw[h2.2.2]
 exact List.getElem?_eq_getElem _
theorem ok_tell_off(T:Txt K mg t):FnOk P w K mg base CX0 13 t.f_tell_off t.d_tell_off ["house","call"] (spDo t (isNone .tellOff)):=by
 refine T.fu_tell_off.ok sc_tell_off (fun vs H Q E h=>?_) (fun cdv A outer s H vs Q E hr h=>?_)
 ·obtain⟨h,lp,c,q,s,p,xs,rs,e,cl,rfl,_⟩:=h
  rfl
 ·obtain⟨h,lp,c,q,st,p,xs,rs,e,cl,rfl,hQ,hqn,G,ho,⟨dc,ln,lr0,ras0,hc,hln,hlr,hrs,nr0,nrs0⟩,rfl,k⟩:=h
  have hop:st.opened=true:=ho.elim id fun z=>by cases z
  obtain⟨h5,hbl,hsz⟩:=open_facts G hop
  obtain⟨dx,lb,lr,bas,ras,pas,I,nq1,nq2,nq3,nq4⟩:=id hQ
  have nd:=sc_tell_off.nd
  obtain⟨k5,hk5⟩:=T.ct_TOLD_OFF
  refine⟨_,pss_cons (ps_set (i:=2) nd rfl (Or.inl rfl) (pe_meth0 (pv 0) T.cl_House T.me_House_in_trouble (ok_in_troubleO T) hr T.bi_House_in_trouble .nil pass0))
   (pss_cons (ps_for PassesOwn.never rfl (pi_list (pv 2)) (pg_name (i:=3) nd rfl (Or.inl rfl)) (pss_one (ps_fld (pv 3) (pe_glob (v:= .int 5) rfl hk5 ⟨_,rfl⟩) rfl)))
   (pss_one (ps_ret (pe_op op_cat (pe_lst (pa_cons pe_int pa_nil)) (pe_call (ok_parties_told T) (hr.mono (by omega)) rfl T.mg_parties_told T.fu_parties_told.kp T.bi_parties_told .nil pass0 (pa_cons (pv 2) pa_nil)))))),?_⟩
  refine⟨_,rfl,h,dx,_,rfl,I.self,rfl,?_⟩
  refine⟨h,st,dx,lb,lr,lp,bas,ras,pas,rfl,I,h5,hbl,hsz,fun H2 l2 as2 i0 places s2 n2 hl2 hP2 e1 e2 e3=>?_⟩
  obtain⟨ys,y1,y2,y3⟩:=unpair (R:=fun a x=>PtyAt t H2 st.room a x∧Own pas a x) hP2
  have ht:=My.trouble_at G e1 e2 e3
  rw[←y2]at ht
  have lys:ys.length≤5:=by
   have:=places_short h5 e1
   rw[←Paired.length y1,Paired.length hP2]
   omega
  have ly:=Paired.length y1
  have I2:=I.same s2
  refine⟨_,rfl,l2,rfl,⟨_,SqL.of hl2⟩,?_⟩
  refine for_list (K:=K) (a:=l2) (xs:=as2.map V.ref) (fun i σ H'=> ∃v3:Option V,σ=[some (.ref h),some (.ref c),some (.ref l2),v3]∧HouseIs t H' (Vbhoae.without st ((ys.take i).map Prod.snd)) h dx lb lr lp bas ras pas∧Fr h lp H2 H'∧H' l2=some (.lst (as2.map V.ref)))
   ⟨none,rfl,by rw[List.take_zero,List.map_nil,My.without_nil];exact I2,Fr.of (Same.refl _),hl2⟩ (fun i σ H' _ ⟨_,_,_,_,e⟩=>SqL.of e) ?_ ?_
  ·rintro i y σ H' hi ⟨v3,rfl,J,fJ,hlJ⟩
   rw[List.getElem?_map]at hi
   obtain⟨a,ha,rfl⟩:=Option.map_eq_some_iff.mp hi
   obtain⟨x,hx,_,hown⟩:=paired_at y1 ha
   obtain⟨g1,g2,g3⟩:=prom_at (y3 x (List.mem_of_getElem? hx))
   obtain⟨p',hp',hpe⟩:=without_at (l:=(ys.take i).map Prod.snd) g1
   obtain⟨a',dp,bv,ha',h1,h2⟩:=party_there J hp'
   rw[show pas[x.2-1]? =some a from hown]at ha'
   cases ha'
   have nb: ¬HasB p':=by
    rcases hpe with rfl | rfl
    ·intro z;rcases z with z | z<;>omega
    ·intro z;rcases z with z | z<;>cases z
   have hbv:bv= .non :=by
    rcases h2 with ⟨b1,_⟩ | ⟨_,b2⟩
    ·exact absurd b1 nb
    ·exact b2
   refine⟨_,rfl,a,t.c_Party,dp,_,rfl,h1,T.cl_Party,T.no_Party_stage,(by show 6<1000;decide),some (.ref a),rfl,?_,fJ.trans (Fr.put h1 ⟨_,_,_,_,_,rfl⟩),?_⟩
   ·have J2:=J.put (g:=fun y=>{y with stage:=5}) (bv':=bv) hown hp' h1 (.inr ⟨(by intro z;rcases z with z | z<;>cases z),hbv⟩)
    have ew:Vbhoae.without st ((ys.take (i+1)).map Prod.snd)=Vbhoae.setParty (Vbhoae.without st ((ys.take i).map Prod.snd)) (x.2-1+1) fun y=>{y with stage:=5}:=by
     rw[List.take_add_one,hx,List.map_append]
     show Vbhoae.without st (_++[x.2])=_
     rw[My.without_snoc st _ g3,set_at g3]
    rw[ew]
    exact J2
   ·rw[upd_ne (ne_of hlJ h1 (by intro z;cases z))]
    exact hlJ
  ·rintro σ H' ⟨v3,rfl,J,fJ,hlJ⟩
   have ea:(ys.take (as2.map V.ref).length).map Prod.snd=Vbhoae.trouble st:=by rw[List.length_map,ly,List.take_length,ht]
   rw[ea]at J
   have hzs: ∃zs:List (Vbhoae.Party×Nat),Paired (PtyAt t H' st.room) as2 zs∧zs.map Prod.snd=ys.map Prod.snd:=by
    have key: ∀{as:List Addr} {ys:List (Vbhoae.Party×Nat)},Paired (fun a x=>PtyAt t H2 st.room a x∧Own pas a x) as ys→(∀x∈ys,x∈My.prom st)→ ∃zs:List (Vbhoae.Party×Nat),Paired (PtyAt t H' st.room) as zs∧zs.map Prod.snd=ys.map Prod.snd:=by
     intro as ys hh hm
     induction hh with
     | nil=>exact⟨[],.nil,rfl⟩
     | @cons a x as ys r q ih=>
      obtain⟨zs,z1,z2⟩:=ih fun u hu=>hm u (List.mem_cons_of_mem _ hu)
      obtain⟨g1,g2,g3⟩:=prom_at (hm x (List.mem_cons_self ..))
      obtain⟨z,hz,hpz⟩:=paired_at J.ps r.2
      obtain⟨_,hz2⟩:=zip_at hz
      refine⟨z::zs,.cons hpz z1,?_⟩
      rw[List.map_cons,List.map_cons,z2,hz2,show x.2-1+1=x.2 by omega]
    exact key y1 y3
   obtain⟨zs,z1,z2⟩:=hzs
   have lz:zs.length=ys.length:=by
    have:=congrArg List.length z2
    simpa using this
   refine⟨(by show 1≤sizeLine;decide),fun l4 hl4=>?_⟩
   have s4:Same H' (upd H' l4 (.lst [V.int 0])):=Same.new hl4
   have hl4':upd H' l4 (.lst [V.int 0]) l4=some (.lst [V.int 0]):=upd_same
   generalize upd H' l4 (.lst [V.int 0])=H4 at s4 hl4' ⊢
   refine⟨_,rfl,l2,st.room,as2,zs,rfl,SqL.of (s4 _ _ hlJ),Paired.mapP z1 fun _ _ z=>z.same s4,by omega,fun H5 l5 s5 n5 hl5=>?_⟩
   refine⟨l4,l5,_,_,rfl,rfl,s5 _ _ hl4',hl5,?_,fun l9 hl9=>?_⟩
   ·show 1+((Vbhoae.nat zs.length::zs.map fun x=>Vbhoae.nat x.2).map V.int).length ≤sizeLine
    rw[List.length_map,List.length_cons,List.length_map,sizeLine_eq]
    omega
   have s49:Same H' _:=(s4.trans s5).trans (Same.new (o:= .lst ([V.int 0]++(Vbhoae.nat zs.length::zs.map fun x=>Vbhoae.nat x.2).map V.int)) hl9)
   have hok:Vbhoae.step st .tellOff =(Vbhoae.without st (Vbhoae.trouble st),0::Vbhoae.nat (Vbhoae.trouble st).length ::(Vbhoae.trouble st).map Vbhoae.nat):=step_ok ho rfl
   refine k _ l9 ?_ ((Fr.of s2).trans (fJ.trans (Fr.of s49))) (Same.none s2 (fJ.2 _ (Same.none (s4.trans s5) hl9))) ?_
   ·rw[hok]
    exact⟨dx,lb,lr,bas,ras,pas,J.same s49,nq1,nq2,nq3,nq4⟩
   ·rw[hok,upd_same,ht,←z2,List.length_map,List.map_map]
    rfl
def AnsOk(K:PySem.W.Frag)(t:Adr):Prop:= ∃(rows:List KRow) (kvs:List (Key×V)),KDct K t.g_ANSWERERS rows∧KV kvs (rows.map kPair)∧
 valV kvs (.inl 0)=some (.ref t.f_open_house)∧valV kvs (.inl 1)=some (.ref t.f_book)∧valV kvs (.inl 2)=some (.ref t.f_cancel)∧valV kvs (.inl 3)=some (.ref t.f_arrive)∧valV kvs (.inl 4)=some (.ref t.f_walkin)∧valV kvs (.inl 5)=some (.ref t.f_leave)∧valV kvs (.inl 6)=some (.ref t.f_stay)∧valV kvs (.inl 7)=some (.ref t.f_pass_time)∧
 valV kvs (.inl 8)=some (.ref t.f_plan)∧valV kvs (.inl 9)=some (.ref t.f_quote)∧valV kvs (.inl 10)=some (.ref t.f_trouble)∧valV kvs (.inl 11)=some (.ref t.f_tell_off)∧valV kvs (.inl 12)=some (.ref t.f_free_now)∧valV kvs (.inl 13)=some (.ref t.f_tables_now)∧valV kvs (.inl 14)=some (.ref t.f_party_now)∧valV kvs (.inl 15)=some (.ref t.f_state_now)
inductive spAnswer(t:Adr)(vs:List V)(H:Hp)(Q:VK)(_:XK):Prop
 | mk (h lp c q:Addr) (s:Vbhoae.State) (p:Int) (xs:List Int) (rs:List (List Int)) (e:Nat) (_:vs=[.ref h,.ref c]) (_:HouseQ t q H h lp s) (_:H q≠none) (_:My.Good s) (_:CallQ t q lp H c p xs rs e) (_:My.Shaped ((p::xs)::rs)) (_:PyVbhoae.shape p=some (xs.length,rs.length)) (_:rs.length≤3) (_:(∀r∈rs,r.length≤100000)) (_: ∀(H':Hp) (l:Addr),HouseQ t q H' h lp (Vbhoae.stepNumbers s ((p::xs)::rs)).1→Fr h lp H H'→H l=none→H' l=some (.lst ((Vbhoae.stepNumbers s ((p::xs)::rs)).2.map V.int))→Q (.ref l) H')
theorem ok_answer(T:Txt K mg t)(hR:RangesOk K t.g_RANGES)(hA:AnsOk K t):FnOk P w K mg base CX0 15 t.f_answer t.d_answer ["house","call"] (spAnswer t):=by
 refine T.fu_answer.ok sc_answer (fun vs H Q E h=>?_) (fun cdv A outer s H vs Q E hr h=>?_)
 ·obtain⟨h,lp,c,q,s,p,xs,rs,e,rfl,_⟩:=h
  rfl
 ·obtain⟨h,lp,c,q,st,p,xs,rs,e,rfl,hQ,hqn,G,hC,hsh,hsp,hr3,hr9,k⟩:=h
  obtain⟨rowsA,kvA,dA,relA,v0,v1,v2,v3,v4,v5,v6,v7,v8,v9,v10,v11,v12,v13,v14,v15⟩:=hA
  have nd:=sc_answer.nd
  obtain⟨k0,hk0⟩:=T.ct_OPEN_CALL
  refine⟨_,pss_cons (ps_if (pt_not (pt_val (pe_call (ok_is_in_range T hR) (hr.mono (by omega)) rfl T.mg_is_in_range T.fu_is_in_range.kp T.bi_is_in_range .nil pass0 (pa_cons (pv 1) pa_nil)))) (pss_one (ps_ret (pe_lst (pa_cons (pe_un un_neg pe_int) pa_nil)))) pss_nil)
   (pss_cons (ps_if (PW.pt (pw_and (pt_cmpR op_ne (pe_fld (pv 1) rfl) (pe_glob (v:= .int 0) rfl hk0 ⟨_,rfl⟩) (nomark _)) (pw_and1 (pt_not (pt_val (pe_fld (pv 0) rfl)))))) (pss_one (ps_ret (pe_lst (pa_cons (pe_un un_neg pe_int) pa_nil)))) pss_nil)
   (pss_cons (ps_set (i:=2) nd rfl (Or.inl rfl) (pe_dgetK dA relA (pe_glob rfl T.mg_ANSWERERS rfl) (pe_fld (pv 1) rfl) (fun _ _=>rfl)))
   (pss_one (ps_ret (pe_callV (k:=14) (pv 2) hr (pa_cons (pv 0) (pa_cons (pv 1) pa_nil))))))),?_⟩
  obtain⟨dc,ln,lr0,ras0,hc,hln,hlr,hrs,nr0,nrs0⟩:=id hC
  have heq:=My.stepNumbers_eq (s:=st) hsh
  refine⟨_,rfl,c,p,xs,rs,e,rfl,⟨dc,ln,lr0,ras0,hc,hln,hlr,hrs⟩,hsp,hr3,hr9,fun H1 s1=>⟨_,rfl,?_⟩⟩
  cases hin:My.inRange p xs rs with
  | false=>
   rw[hin,if_neg Bool.false_ne_true]at heq
   refine iteT ⟨_,rfl,(by show 1≤sizeLine;decide),fun l1 hl1=>?_⟩
   have s2:=s1.trans (Same.new (o:= .lst [V.int (-1)]) hl1)
   refine k _ l1 ?_ (Fr.of s2) (Same.none s1 hl1) ?_
   ·rw[heq]
    exact hQ.same s2
   ·rw[heq]
    exact upd_same
  | true=>
   rw[hin,if_pos rfl]at heq
   rw[heq]at k
   refine iteF ?_
   have hQ1:=hQ.same s1
   obtain⟨dx,lb,lr,bas,ras,pas,I,nq⟩:=id hQ1
   have hc1:=s1 _ _ hc
   have hC1:CallQ t q lp H1 c p xs rs e:=⟨dc,ln,lr0,ras0,hc1,s1 _ _ hln,s1 _ _ hlr,Paired.mapP hrs fun _ _ z=>s1 _ _ z,nr0,nrs0⟩
   have hqn1:H1 q≠none:=fun z=>hqn (Same.none s1 z)
   have k1:Ends1 t q H1 h lp st (My.callOf ((p::xs)::rs)) Q:=fun H' l a1 a2 a3 a4=>k H' l a1 ((Fr.of s1).trans a2) (Same.none s1 a3) a4
   have go:(st.opened=true∨Vbhoae.isOpens (My.callOf ((p::xs)::rs))=true)→tSeq (tAsg (tDGetK kvA (tFld K (tVar 1) "number")) (gName 2)) (tRet (tCallV (cxOf CX0 P w K mg base n_answer "answer" (defScope s_answer) t.f_answer cdv A outer s H E).nox 14 (tVar 2) (tCons (tVar 0) (tCons (tVar 1) tNil)))) {nx:=fun _ H'=>Q .non H',rt:=Q} [some (.ref h),some (.ref c),none] H1:=by
    intro ho
    have main: ∀(f:Addr) (fd:FuncData) (F:List Int→List (List Int)→Vbhoae.Call→Prop),valV kvA (.inl p)=some (.ref f)→PySem.W.keepIn K (.ref f)=true→FnOk P w K mg base CX0 14 f fd ["house","call"] (spDo t F)→Binds K fd ["house","call"] []→F xs rs (My.callOf ((p::xs)::rs))→
      tSeq (tAsg (tDGetK kvA (tFld K (tVar 1) "number")) (gName 2)) (tRet (tCallV (cxOf CX0 P w K mg base n_answer "answer" (defScope s_answer) t.f_answer cdv A outer s H E).nox 14 (tVar 2) (tCons (tVar 0) (tCons (tVar 1) tNil)))) {nx:=fun _ H'=>Q .non H',rt:=Q} [some (.ref h),some (.ref c),none] H1:=by
     intro f fd F hv kp hF hb hx
     refine⟨_,rfl,c,t.c_Call,dc,_,_,rfl,hc1,T.cl_Call,T.no_Call_number,rfl,.inl p,_,rfl,hv,?_⟩
     refine⟨_,rfl,f,fd,["house","call"],spDo t F,rfl,kp,hF,hb,_,rfl,_,rfl,?_⟩
     exact⟨h,lp,c,q,st,p,xs,rs,e,_,rfl,hQ1,hqn1,G,ho,hC1,hx,k1⟩
    cases hsh with
    | c0 l cc r s3 t3=>
     simp[My.inRange,My.inRg,My.rangesOf,My.rowOk]at hin
     refine main t.f_open_house t.d_open_house isOpen v0 T.fu_open_house.kp ((ok_open_house T).mono (by omega)) T.bi_open_house ⟨l.toNat,cc.toNat,r,s3,t3,by rw[Int.toNat_of_nonneg (by omega),Int.toNat_of_nonneg (by omega)],rfl,rfl,by omega,fun r9 hr9=>?_⟩
     simp only[List.mem_cons,List.not_mem_nil,or_false]at hr9
     obtain⟨_,⟨a1,a2⟩,⟨b1,b2⟩,c1,c2⟩:=hin
     rcases hr9 with rfl | rfl | rfl
     ·exact⟨a1,fun x hx=>by have:=a2 x hx;omega⟩
     ·exact⟨b1,fun x hx=>by have:=b2 x hx;omega⟩
     ·exact⟨c1,fun x hx=>by have:=c2 x hx;omega⟩
    | c1 n f m=>
     simp[My.inRange,My.inRg,My.rangesOf,My.rowOk]at hin
     exact main t.f_book t.d_book isBook v1 T.fu_book.kp ((ok_book T).mono (by omega)) T.bi_book ⟨n.toNat,f.toNat,m.toNat,by rw[Int.toNat_of_nonneg (by omega),Int.toNat_of_nonneg (by omega),Int.toNat_of_nonneg (by omega)],rfl,by omega,by omega⟩
    | c2 n=>
     simp[My.inRange,My.inRg,My.rangesOf,My.rowOk]at hin
     exact main t.f_cancel t.d_cancel (isOne .cancel) v2 T.fu_cancel.kp ((ok_cancel T).mono (by omega)) T.bi_cancel ⟨n.toNat,by rw[Int.toNat_of_nonneg (by omega)],rfl,by omega⟩
    | c3 n=>
     simp[My.inRange,My.inRg,My.rangesOf,My.rowOk]at hin
     exact main t.f_arrive t.d_arrive (isOne .arrive) v3 T.fu_arrive.kp ((ok_arrive T).mono (by omega)) T.bi_arrive ⟨n.toNat,by rw[Int.toNat_of_nonneg (by omega)],rfl,by omega⟩
    | c4 n m=>
     simp[My.inRange,My.inRg,My.rangesOf,My.rowOk]at hin
     exact main t.f_walkin t.d_walkin isWalkin v4 T.fu_walkin.kp ((ok_walkin T).mono (by omega)) T.bi_walkin ⟨n.toNat,m.toNat,by rw[Int.toNat_of_nonneg (by omega),Int.toNat_of_nonneg (by omega)],rfl,by omega,by omega⟩
    | c5 n=>
     simp[My.inRange,My.inRg,My.rangesOf,My.rowOk]at hin
     exact main t.f_leave t.d_leave (isOne .leave) v5 T.fu_leave.kp ((ok_leave T).mono (by omega)) T.bi_leave ⟨n.toNat,by rw[Int.toNat_of_nonneg (by omega)],rfl,by omega⟩
    | c6 n m=>
     simp[My.inRange,My.inRg,My.rangesOf,My.rowOk]at hin
     exact main t.f_stay t.d_stay isStay v6 T.fu_stay.kp ((ok_stay T).mono (by omega)) T.bi_stay ⟨n.toNat,m.toNat,by rw[Int.toNat_of_nonneg (by omega),Int.toNat_of_nonneg (by omega)],rfl,by omega⟩
    | c7 m=>
     simp[My.inRange,My.inRg,My.rangesOf,My.rowOk]at hin
     exact main t.f_pass_time t.d_pass_time isPass v7 T.fu_pass_time.kp ((ok_pass_time T).mono (by omega)) T.bi_pass_time ⟨m.toNat,by rw[Int.toNat_of_nonneg (by omega)],rfl⟩
    | c8=>exact main t.f_plan t.d_plan (isNone .plan) v8 T.fu_plan.kp ((ok_plan T).mono (by omega)) T.bi_plan rfl
    | c9 n m=>
     simp[My.inRange,My.inRg,My.rangesOf,My.rowOk]at hin
     exact main t.f_quote t.d_quote isQuote v9 T.fu_quote.kp ((ok_quote T).mono (by omega)) T.bi_quote ⟨n.toNat,m.toNat,by rw[Int.toNat_of_nonneg (by omega),Int.toNat_of_nonneg (by omega)],rfl,by omega,by omega⟩
    | c10=>exact main t.f_trouble t.d_trouble (isNone .trouble) v10 T.fu_trouble.kp ((ok_trouble T).mono (by omega)) T.bi_trouble rfl
    | c11=>exact main t.f_tell_off t.d_tell_off (isNone .tellOff) v11 T.fu_tell_off.kp ((ok_tell_off T).mono (by omega)) T.bi_tell_off rfl
    | c12 n=>
     simp[My.inRange,My.inRg,My.rangesOf,My.rowOk]at hin
     exact main t.f_free_now t.d_free_now isSize v12 T.fu_free_now.kp ((ok_free_now T).mono (by omega)) T.bi_free_now ⟨n.toNat,by rw[Int.toNat_of_nonneg (by omega)],rfl,by omega⟩
    | c13=>exact main t.f_tables_now t.d_tables_now (isNone .tables) v13 T.fu_tables_now.kp ((ok_tables_now T).mono (by omega)) T.bi_tables_now rfl
    | c14 n=>
     simp[My.inRange,My.inRg,My.rangesOf,My.rowOk]at hin
     exact main t.f_party_now t.d_party_now (isOne .party) v14 T.fu_party_now.kp ((ok_party_now T).mono (by omega)) T.bi_party_now ⟨n.toNat,by rw[Int.toNat_of_nonneg (by omega)],rfl,by omega⟩
    | c15=>exact main t.f_state_now t.d_state_now (isNone .state) v15 T.fu_state_now.kp ((ok_state_now T).mono (by omega)) T.bi_state_now rfl
   refine⟨_,rfl,c,t.c_Call,dc,_,_,rfl,hc1,T.cl_Call,T.no_Call_number,rfl,rfl,_,rfl,?_⟩
   by_cases hp:p=0
   ·have ed:(!decide (V.int p=V.int 0))=false:=by rw[hp,decide_eq_true rfl];rfl
    rw[ed]
    refine iteF (iteF (go (.inr ?_)))
    subst hp
    cases hsh
    rfl
   ·have ed:(!decide (V.int p=V.int 0))=true:=by rw[decide_eq_false fun z=>hp (V.int.inj z)];rfl
    rw[ed]
    refine iteT ⟨_,rfl,h,t.c_House,dx,_,_,rfl,I.self,T.cl_House,T.no_House_is_open,rfl,_,rfl,?_⟩
    cases hop:st.opened with
    | true=>exact iteF (go (.inl hop))
    | false=>
     refine iteT ⟨_,rfl,(by show 1≤sizeLine;decide),fun l1 hl1=>?_⟩
     have hio:Vbhoae.isOpens (My.callOf ((p::xs)::rs))=false:=by
      cases hsh<;>first | rfl | exact absurd rfl hp
     have hst:Vbhoae.step st (My.callOf ((p::xs)::rs))=(st,[-2]):=by
      unfold Vbhoae.step
      rw[if_pos ⟨hop,hio⟩]
     exact k1.err hQ1 (Same.refl _) hl1 hst
inductive spAns(K:PySem.W.Frag)(vs:List V)(H:Hp)(Q:VK)(_:XK):Prop
 | mk (a:Addr) (ns:List Int) (_:vs=[.ref a]) (_:SqL K H a (ns.map V.int)) (_:ns.length≤16000) (_:PyVbhoae.answers_asked ns=true) (_: ∀(H':Hp) (p:Addr),H' p=some (.lst ((PyVbhoae.answers ns).map V.int))→Q (.ref p) H')
abbrev playedS:=PyFlat.played VbhoaeNeutral.step
theorem told_cons(x:List Int)(l:List (List Int)):PyFlat.told (x::l)=((x.length:Nat):Int)::x++PyFlat.told l:=by
 unfold PyFlat.told
 rw[List.flatMap_cons]
theorem put_app(a b:List (List (List Int))):PyFlat.put (a++b)=PyFlat.put a++PyFlat.put b:=by
 induction a with
 | nil=>rfl
 | cons x a ih=>
  show PyFlat.put1 x++PyFlat.put (a++b)=(PyFlat.put1 x++PyFlat.put a)++PyFlat.put b
  rw[ih,List.append_assoc]
theorem HouseQ.write{q:Addr}{H:Hp}{h lp:Addr}{s:Vbhoae.State}{ys:List V}{zs:List V}(hq:H q=some (.lst ys))(hQ:HouseQ t q H h lp s):HouseQ t q (L2.upd H q (.lst zs)) h lp s:=by
 obtain⟨dx,lb,lr,bas,ras,pas,I,n1,n2,n3,n4⟩:=hQ
 have ni: ∀{b C d:Addr} {fs:List (Str×V)},H b=some (.ins C d fs)→L2.upd H q (.lst zs) b=some (.ins C d fs):=fun{b C d fs} e=>by
  rw[upd_ne (ne_of e hq (by intro z;cases z))]
  exact e
 have nB: ∀{c:Addr} {b:Vbhoae.Block},BlkAt t H c s.room b→BlkAt t (L2.upd H q (.lst zs)) c s.room b:=fun{c b} ⟨d,z⟩=>⟨d,ni z⟩
 refine⟨dx,lb,lr,bas,ras,pas,⟨ni I.self,by rw[upd_ne n1];exact I.lb,Paired.mapP (show Paired (fun a b=>BlkAt t H a s.room b) _ _ from I.bs) fun _ _ z=>nB z,by rw[upd_ne n2];exact I.lr,?_,by rw[upd_ne n3];exact I.lp,Paired.mapP I.ps fun c x z=>?_,I.nb,I.nr,I.nrs,I.few⟩,n1,n2,n3,n4⟩
 ·refine paired_of (Paired.length I.rs) fun i b r hi hr=>?_
  obtain⟨r2,h2,z⟩:=paired_at I.rs hi
  rw[hr]at h2
  cases h2
  show L2.upd H q _ b=_
  rw[upd_ne (n4 b (List.mem_of_getElem? hi))]
  exact z
 ·obtain⟨d,bv,z1,z2⟩:=z
  refine⟨d,bv,ni z1,?_⟩
  rcases z2 with ⟨b1,c,b2,b3⟩ | b1
  ·exact .inl ⟨b1,c,b2,nB b3⟩
  ·exact .inr b1
theorem row_in{r:List Int}: ∀{rows:List (List Int)},r∈rows→r.length≤(PyFlat.putRows rows).length
 | y::rows,h=>by
  show _≤(PyFlat.putRow y++PyFlat.putRows rows).length
  rw[List.length_append]
  rcases List.mem_cons.mp h with rfl | h
  ·show _≤(((r.length:Nat):Int)::r).length +_
   rw[List.length_cons]
   omega
  ·have:=row_in h
   omega
theorem call_noPty{C d:Addr}{p:Int}{ln lr:Addr}{e:Nat}: ¬IsPty (.ins C d [("number",.int p),("numbers",.ref ln),("rows",.ref lr),("place_behind",nV e)]):=by
 rintro⟨C2,d2,no,p2,bv,z⟩
 exact head_ne (by decide) (List.cons.inj (HO.ins.inj z).2.2).2
theorem ok_answers(T:Txt K mg t)(hR:RangesOk K t.g_RANGES)(hC:CountsOk K t.g_ROW_COUNTS)(hA:AnsOk K t):FnOk P w K mg base CX0 16 t.f_answers t.d_answers ["calls"] (spAns K):=by
 refine T.fu_answers.ok sc_answers (fun vs H Q E h=>?_) (fun cdv A outer s H vs Q E hr h=>?_)
 ·obtain⟨a,ns,rfl,_⟩:=h
  rfl
 ·obtain⟨a,ns,rfl,hS,hlen,hask,k⟩:=h
  obtain⟨cs,hcs⟩:=My.asked_of hask
  have nd:=sc_answers.nd
  refine⟨_,pss_cons (ps_set (i:=1) nd rfl (Or.inl rfl) (pe_make0 T.mk_House (ok_House_init T) (hr.mono (by omega)) rfl T.mg_House T.bi_House_init .nil pass0))
   (pss_cons (ps_set (i:=2) nd rfl (Or.inl rfl) (pe_lst pa_nil))
   (pss_cons (ps_set (i:=3) nd rfl (Or.inl rfl) pe_int)
   (pss_cons (ps_while PassesOwn.never (pt_cmpR op_lt (pv 3) (pe_callB call_len_seq rfl T.bn_len PySem.boot_len (pa_cons (pv 0) pa_nil)) (nomark _))
    (pss_cons (ps_set (i:=4) nd rfl (Or.inl rfl) (pe_call (ok_read_call T hR hC) (hr.mono (by omega)) rfl T.mg_read_call T.fu_read_call.kp T.bi_read_call .nil pass0 (pa_cons (pv 0) (pa_cons (pv 3) pa_nil))))
    (pss_cons (ps_set (i:=5) nd rfl (Or.inl rfl) (pe_call (ok_answer T hR hA) hr rfl T.mg_answer T.fu_answer.kp T.bi_answer .nil pass0 (pa_cons (pv 1) (pa_cons (pv 4) pa_nil))))
    (pss_cons (ps_expr (pe_bm PySem.F.plainAttrs_list PySem.F.slot_list_append PySem.F.type_list_append mt_append (pv 2) (pa_cons (pe_callB call_len_seq rfl T.bn_len PySem.boot_len (pa_cons (pv 5) pa_nil)) pa_nil)))
    (pss_cons (ps_expr (pe_bm PySem.F.plainAttrs_list PySem.F.slot_list_extend PySem.F.type_list_extend mt_extend (pv 2) (pa_cons (pv 5) pa_nil)))
    (pss_one (ps_set (i:=3) nd rfl (Or.inl rfl) (pe_fld (pv 4) rfl))))))))
   (pss_one (ps_ret (pv 2)))))),?_⟩
  intro x dy nx ny nxy
  refine⟨x,dy,rfl,upd_same,fun H1 lp hH hk hlp=>⟨rfl,?_⟩⟩
  have s1:Same H H1:=Same.made nx ny hk
  have hlp0:H lp=none:=upd_none (upd_none hlp)
  obtain⟨dx,lb,lr,bas,ras,pas,I⟩:=hH
  refine⟨Nat.zero_le _,fun q hq=>?_⟩
  have s2:Same H1 (upd H1 q (.lst [])):=Same.new hq
  have hq2:upd H1 q (.lst []) q=some (.lst (([]:List Int).map V.int)):=upd_same
  have hQ2:HouseQ t q (upd H1 q (.lst [])) x lp Vbhoae.start:=⟨dx,lb,lr,bas,ras,pas,I.same s2,ne_of_none I.lb hq,ne_of_none I.lr hq,ne_of_none I.lp hq,fun b hb=>by
   obtain⟨i,hi,rfl⟩:=List.mem_iff_getElem.mp hb
   obtain⟨r,_,z⟩:=paired_at I.rs (List.getElem?_eq_getElem hi)
   exact ne_of_none z hq⟩
  have nA:(a≠x∧a≠lp∧a≠q)∨ ∀H3:Hp,SqL K H3 a (ns.map V.int):=by
   rcases hS with (e | ⟨o,e⟩) | e
   ·exact .inl ⟨ne_of_none e nx,ne_of_none e hlp0,ne_of_none (s1 _ _ e) hq⟩
   ·exact .inl ⟨ne_of_none e nx,ne_of_none e hlp0,ne_of_none (s1 _ _ e) hq⟩
   ·exact .inr fun H3=> .inr e
  have stays: ∀{H3 H4:Hp},SqL K H3 a (ns.map V.int)→(∀b o,H3 b=some o→b≠x→b≠lp→b≠q→ ¬IsPty o→H4 b=some o)→SqL K H4 a (ns.map V.int):=fun{H3 H4} z f=>by
   rcases nA with ⟨n1,n2,n3⟩ | e
   ·rcases z with (e | ⟨o,e⟩) | e
    ·exact .inl (.inl (f _ _ e n1 n2 n3 (lst_noPty _)))
    ·exact .inl (.inr ⟨o,f _ _ e n1 n2 n3 (by rintro⟨C,d,no,p,bv,z⟩;cases z)⟩)
    ·exact .inr e
   ·exact e H4
  have hS2:=s2.seq (s1.seq hS)
  generalize upd H1 q (.lst [])=H2 at s2 hq2 hQ2 hS2 ⊢
  refine⟨fun m σ H'=> ∃(dn rs:List (List (List Int))) (st:Vbhoae.State) (tl:List Int) (v4 v5:Option V),cs=dn++rs∧rs.length=m∧σ=[some (.ref a),some (.ref x),some (.ref q),some (nV (PyFlat.put dn).length),v4,v5]∧HouseQ t q H' x lp st∧My.Good st∧SqL K H' a (ns.map V.int)∧H' q=some (.lst (tl.map V.int))∧
    PyVbhoae.answers ns=tl++PyFlat.told (playedS st rs)∧tl.length≤3502*dn.length,
   ⟨cs.length,[],cs,Vbhoae.start,[],none,none,rfl,rfl,rfl,hQ2,My.good_start,hS2,hq2,hcs.ans,Nat.zero_le _⟩,?_⟩
  rintro m σ H3 ⟨dn,rs,st,tl,v4,v5,hdr,hm,rfl,hQ3,G,hS3,hq3,hans,htl⟩
  refine⟨_,rfl,_,rfl,a,_,rfl,.inl hS3,_,_,rfl,rfl,_,rfl,?_⟩
  have hput:ns.length=(PyFlat.put dn).length +(PyFlat.put rs).length :=by rw[hcs.put,hdr,put_app,List.length_append]
  rw[List.length_map]
  cases rs with
  | nil=>
   have e0:decide (((PyFlat.put dn).length :Int)<((ns.length:Nat):Int))=false:=decide_eq_false (by rw[hput];show ¬_<((((PyFlat.put dn).length +0:Nat)):Int);omega)
   show if decide ((((PyFlat.put dn).length :Nat):Int)<((ns.length:Nat):Int))=true then _ else _
   rw[e0]
   refine iteF ⟨_,rfl,?_⟩
   refine k H3 q ?_
   rw[hq3,hans]
   show _=some (HO.lst ((tl++[]).map V.int))
   rw[List.append_nil]
  | cons cl rs=>
   obtain⟨p,xs,rows,rfl,hsp⟩:=hcs.ok cl (by rw[hdr];simp)
   have hshp:=My.shaped_of ⟨p,xs,rows,rfl,hsp⟩
   have hp1:(PyFlat.put (((p::xs)::rows)::rs))=PyFlat.put1 ((p::xs)::rows)++PyFlat.put rs:=rfl
   have hns:ns=PyFlat.put dn++(PyFlat.put1 ((p::xs)::rows)++PyFlat.put rs):=by rw[hcs.put,hdr,put_app,hp1]
   have e0:decide (((PyFlat.put dn).length :Int)<((ns.length:Nat):Int))=true:=decide_eq_true (by
    rw[hput,hp1]
    show _<(((PyFlat.put dn).length +((p::xs++PyFlat.putRows rows)++PyFlat.put rs).length :Nat):Int)
    simp
    omega)
   show if decide ((((PyFlat.put dn).length :Nat):Int)<((ns.length:Nat):Int))=true then _ else _
   rw[e0]
   refine iteT ?_
   refine⟨fun σ' H'=> ∃(st:Vbhoae.State) (tl:List Int) (v4 v5:Option V),σ'=[some (.ref a),some (.ref x),some (.ref q),some (nV (PyFlat.put (dn++[(p::xs)::rows])).length),v4,v5]∧HouseQ t q H' x lp st∧My.Good st∧SqL K H' a (ns.map V.int)∧H' q=some (.lst (tl.map V.int))∧
     PyVbhoae.answers ns=tl++PyFlat.told (playedS st rs)∧tl.length≤3502*(dn.length+1),
    fun σ' H' ⟨st,tl,v4,v5,z⟩=>⟨m-1,by rw[←hm,List.length_cons];omega,dn++[(p::xs)::rows],rs,st,tl,v4,v5,by rw[hdr,List.append_assoc];rfl,by rw[←hm,List.length_cons];omega,by rw[List.length_append];exact z⟩,?_⟩
   have hr3:rows.length≤3:=by cases hshp<;>simp
   have hS3':=hS3
   rw[hns]at hS3'
   refine⟨_,rfl,_,rfl,a,PyFlat.put dn,PyFlat.put rs,p,xs,rows,rfl,hS3',hsp,hr3,fun H4 c s4 nc hcn=>?_⟩
   obtain⟨dc,ln,lr0,ras0,hc,hln,hlr,hrs,z1,z2,z3⟩:=hcn
   obtain⟨dx3,lb3,lr3,bas3,ras3,pas3,I3,nq⟩:=id hQ3
   have hr9: ∀r∈rows,r.length≤100000:=fun r hr=>by
    have h1:=row_in hr
    have h2:(PyFlat.putRows rows).length ≤ns.length:=by
     rw[hput,hp1]
     show _≤(PyFlat.put dn).length +((p::xs++PyFlat.putRows rows)++PyFlat.put rs).length
     simp
     omega
    omega
   have hC4:CallQ t q lp H4 c p xs rows ((PyFlat.put dn).length +(PyFlat.put1 ((p::xs)::rows)).length):=⟨dc,ln,lr0,ras0,hc,hln,hlr,hrs,⟨Ne.symm (ne_of_none hq3 z2),Ne.symm (ne_of_none I3.lp z2)⟩,fun b hb=>⟨Ne.symm (ne_of_none hq3 (z3 b hb)),Ne.symm (ne_of_none I3.lp (z3 b hb))⟩⟩
   refine⟨_,rfl,_,rfl,x,lp,c,q,st,p,xs,rows,_,rfl,hQ3.same s4,by rw[s4 _ _ hq3];exact Option.some_ne_none _,G,hC4,hshp,hsp,hr3,hr9,fun H5 l hQ5 f5 nl hl5=>?_⟩
   have nqx:q≠x:=ne_of hq3 I3.self (by intro z;cases z)
   have nqlp:q≠lp:=Ne.symm nq.2.2.1
   have hq5:=f5.1 q _ (s4 _ _ hq3) nqx nqlp (lst_noPty _)
   have hc5:=f5.1 c _ hc (fun z=>by rw[z,I3.self]at nc;cases nc) (fun z=>by rw[z,I3.lp]at nc;cases nc) call_noPty
   have ncq:c≠q:=ne_of hc5 hq5 (by intro z;cases z)
   have nlq:l≠q:=fun z=>by rw[z,s4 _ _ hq3]at nl;cases nl
   have hal:(Vbhoae.stepNumbers st ((p::xs)::rows)).2.length ≤3501:=by
    rw[My.stepNumbers_eq hshp]
    split
    ·exact My.ans_len G _
    ·exact(by decide:1≤3501)
   have hG:=My.stepNumbers_good G hshp
   have hpl:playedS st (((p::xs)::rows)::rs)=(Vbhoae.stepNumbers st ((p::xs)::rows)).2::playedS (Vbhoae.stepNumbers st ((p::xs)::rows)).1 rs:=rfl
   rw[hpl,told_cons]at hans
   generalize (Vbhoae.stepNumbers st ((p::xs)::rows)).1=st2 at hQ5 hG hans
   generalize (Vbhoae.stepNumbers st ((p::xs)::rows)).2=an at hl5 hal hans
   have hdn:dn.length≤400:=by
    have:=hcs.few
    rw[hdr,List.length_append]at this
    omega
   refine⟨_,rfl,.inl ⟨rfl,_,SqL.of hq5⟩,_,rfl,l,_,rfl,.inl (SqL.of hl5),q,_,_,rfl,rfl,hq5,?_,?_⟩
   ·rw[List.length_map,sizeLine_eq]
    omega
   refine⟨_,rfl,.inl ⟨rfl,_,SqL.of upd_same⟩,_,rfl,q,l,_,_,rfl,rfl,upd_same,by rw[upd_ne nlq];exact hl5,?_,?_⟩
   ·rw[List.length_append,List.length_map,List.length_map,sizeLine_eq]
    show _+1+_≤_
    omega
   rw[upd_upd]
   refine⟨_,rfl,c,t.c_Call,dc,_,_,rfl,by rw[upd_ne ncq];exact hc5,T.cl_Call,T.no_Call_place_behind,rfl,?_⟩
   refine⟨st2,tl++((an.length:Int)::an),some (.ref c),some (.ref l),?_,hQ5.write hq5,hG,?_,?_,?_,?_⟩
   ·rw[put_app,List.length_append]
    have e9:(PyFlat.put [(p::xs)::rows]).length =(PyFlat.put1 ((p::xs)::rows)).length :=by
     show(PyFlat.put1 ((p::xs)::rows)++[]).length =_
     rw[List.append_nil]
    rw[e9]
    rfl
   ·refine stays (stays hS3 fun b o e _ _ _ _=>s4 _ _ e) fun b o e n1 n2 n3 n4=>?_
    rw[upd_ne n3]
    exact f5.1 b o e n1 n2 n4
   ·rw[upd_same,List.map_append,List.map_cons,List.length_map,List.append_assoc]
    rfl
   ·rw[hans]
    simp
   ·rw[List.length_append,List.length_cons]
    omega
end
def TupK(K:PySem.W.Frag)(a:Addr)(us:List Value):Prop:= ∃(d:Option Addr) (n:Nat) (sl:Array (Option Value)),K.lookup a=some ⟨.type "tuple",d,.seq us.toArray n,sl⟩
def TupI(K:PySem.W.Frag)(lo hi:Int)(a:Addr):Prop:= ∃k l:Tok,TupK K a [.int lo k,.int hi l]
theorem TupK.sq{K:PySem.W.Frag}{a:Addr}{us:List Value}{xs:List V}(h:TupK K a us)(hl:us.length≤3)(hv:Vals xs us): ∀H,SqT K H a xs:=fun H=>by
 obtain⟨d,n,sl,e⟩:=h
 refine .inr ⟨_,_,n,e,rfl,rfl,?_,?_⟩
 ·rw[List.size_toArray]
  exact Nat.le_trans hl (by decide)
 ·rw[List.toList_toArray]
  exact hv
theorem TupI.sq{K:PySem.W.Frag}{a:Addr}{lo hi:Int}(h:TupI K lo hi a): ∀H,SqT K H a [.int lo,.int hi]:=by
 obtain⟨k,l,h⟩:=h
 exact h.sq (Nat.le_of_ble_eq_true rfl) (.cons ⟨_,rfl⟩ (.cons ⟨_,rfl⟩ .nil))
theorem refs_vals: ∀l:List Addr,Vals (l.map V.ref) (l.map Value.ref)
 | []=> .nil
 | _::l=> .cons rfl (refs_vals l)
abbrev RRow:=Int×Tok×Addr
abbrev rowsOf(l:List RRow):List KRow:=l.map fun x=>(x.1,x.2.1,Value.ref x.2.2)
abbrev kvsOf(l:List RRow):List (Key×V):=l.map fun x=>(Sum.inl x.1,V.ref x.2.2)
theorem kv_refs: ∀l:List RRow,KV (kvsOf l) ((rowsOf l).map kPair)
 | []=> .nil
 | _::l=> .cons ⟨rfl,rfl⟩ (kv_refs l)
theorem small16: ∀i∈([0,1,2,3,4,5,6,7,8,9,10,11,12,13,14,15]:List Int),hashInt i=i:=by decide +kernel
theorem kdct_of{K:PySem.W.Frag}{g:Addr}{ep:Nat}{l:List RRow}(hd:K.lookup g=some ⟨.type "dict",none,.dict ((rowsOf l).map kEntry).toArray ep, #[]⟩)(hn:(g==sysModules)=false)(hl:l.map (·.1)=[0,1,2,3,4,5,6,7,8,9,10,11,12,13,14,15]):KDct K g (rowsOf l):=by
 have e:(rowsOf l).map (fun r=>r.1)=[0,1,2,3,4,5,6,7,8,9,10,11,12,13,14,15]:=by
  rw[List.map_map]
  exact hl
 refine⟨⟨ep,hd⟩,?_,hn,fun r hr=>small16 r.1 ?_⟩
 ·rw[e]
  decide
 ·rw[←e]
  exact List.mem_map_of_mem hr
theorem shape_lt{p:Int}{n k:Nat}(h:PyVbhoae.shape p=some (n,k)):0≤p∧p≤15:=by
 refine Decidable.byContradiction fun z=>?_
 unfold PyVbhoae.shape at h
 rw[if_neg (by omega),if_neg (by omega),if_neg (by omega),if_neg (by omega),if_neg (by omega),if_neg (by omega),if_neg (by omega),if_neg (by omega),if_neg (by omega),if_neg (by omega),if_neg (by omega),if_neg (by omega),if_neg (by omega),if_neg (by omega),if_neg (by omega),if_neg (by omega)]at h
 cases h
theorem ranges_ok{K:PySem.W.Frag}{g T0 T1 T2 T3 T4 T5 T6 T7 T8 T9 T10 T11 T12 T13 T14 T15 a0_0 a0_1 a1_0 a1_1 a1_2 a2_0 a3_0 a4_0 a4_1 a5_0 a6_0 a6_1 a7_0 a9_0 a9_1 a12_0 a14_0:Addr}{ep:Nat}{k0 k1 k2 k3 k4 k5 k6 k7 k8 k9 k10 k11 k12 k13 k14 k15:Tok}
  (hd:K.lookup g=some ⟨.type "dict",none,.dict #[⟨0,.int 0 k0,.ref T0⟩,⟨1,.int 1 k1,.ref T1⟩,⟨2,.int 2 k2,.ref T2⟩,⟨3,.int 3 k3,.ref T3⟩,⟨4,.int 4 k4,.ref T4⟩,⟨5,.int 5 k5,.ref T5⟩,⟨6,.int 6 k6,.ref T6⟩,⟨7,.int 7 k7,.ref T7⟩,⟨8,.int 8 k8,.ref T8⟩,⟨9,.int 9 k9,.ref T9⟩,⟨10,.int 10 k10,.ref T10⟩,⟨11,.int 11 k11,.ref T11⟩,⟨12,.int 12 k12,.ref T12⟩,⟨13,.int 13 k13,.ref T13⟩,⟨14,.int 14 k14,.ref T14⟩,⟨15,.int 15 k15,.ref T15⟩] ep, #[]⟩)(hn:(g==sysModules)=false)
  (t0:TupK K T0 ([a0_0,a0_1].map Value.ref))(t1:TupK K T1 ([a1_0,a1_1,a1_2].map Value.ref))(t2:TupK K T2 ([a2_0].map Value.ref))(t3:TupK K T3 ([a3_0].map Value.ref))(t4:TupK K T4 ([a4_0,a4_1].map Value.ref))(t5:TupK K T5 ([a5_0].map Value.ref))(t6:TupK K T6 ([a6_0,a6_1].map Value.ref))(t7:TupK K T7 ([a7_0].map Value.ref))(t8:TupK K T8 ([].map Value.ref))(t9:TupK K T9 ([a9_0,a9_1].map Value.ref))(t10:TupK K T10 ([].map Value.ref))(t11:TupK K T11 ([].map Value.ref))(t12:TupK K T12 ([a12_0].map Value.ref))(t13:TupK K T13 ([].map Value.ref))(t14:TupK K T14 ([a14_0].map Value.ref))(t15:TupK K T15 ([].map Value.ref))(i0_0:TupI K 0 3 a0_0)(i0_1:TupI K 0 60 a0_1)(i1_0:TupI K 1 80 a1_0)(i1_1:TupI K 0 100000 a1_1)(i1_2:TupI K 1 600 a1_2)(i2_0:TupI K 1 60 a2_0)(i3_0:TupI K 1 60 a3_0)(i4_0:TupI K 1 80 a4_0)(i4_1:TupI K 1 600 a4_1)(i5_0:TupI K 1 60 a5_0)(i6_0:TupI K 1 60 a6_0)(i6_1:TupI K 1 600 a6_1)(i7_0:TupI K 1 1000 a7_0)(i9_0:TupI K 1 80 a9_0)(i9_1:TupI K 1 600 a9_1)(i12_0:TupI K 1 80 a12_0)(i14_0:TupI K 1 60 a14_0):RangesOk K g:=by
 refine⟨_,_,kdct_of (l:=[(0,k0,T0),(1,k1,T1),(2,k2,T2),(3,k3,T3),(4,k4,T4),(5,k5,T5),(6,k6,T6),(7,k7,T7),(8,k8,T8),(9,k9,T9),(10,k10,T10),(11,k11,T11),(12,k12,T12),(13,k13,T13),(14,k14,T14),(15,k15,T15)]) hd hn rfl,kv_refs _,fun p n k h=>?_⟩
 obtain⟨h1,h2⟩:=shape_lt h
 have hp:p=0∨p=1∨p=2∨p=3∨p=4∨p=5∨p=6∨p=7∨p=8∨p=9∨p=10∨p=11∨p=12∨p=13∨p=14∨p=15:=by omega
 rcases hp with rfl | rfl | rfl | rfl | rfl | rfl | rfl | rfl | rfl | rfl | rfl | rfl | rfl | rfl | rfl | rfl
 ·cases h
  exact⟨T0,[a0_0,a0_1],rfl,t0.sq (Nat.le_of_ble_eq_true rfl) (refs_vals _),rfl,.cons i0_0.sq (.cons i0_1.sq (.nil))⟩
 ·cases h
  exact⟨T1,[a1_0,a1_1,a1_2],rfl,t1.sq (Nat.le_of_ble_eq_true rfl) (refs_vals _),rfl,.cons i1_0.sq (.cons i1_1.sq (.cons i1_2.sq (.nil)))⟩
 ·cases h
  exact⟨T2,[a2_0],rfl,t2.sq (Nat.le_of_ble_eq_true rfl) (refs_vals _),rfl,.cons i2_0.sq (.nil)⟩
 ·cases h
  exact⟨T3,[a3_0],rfl,t3.sq (Nat.le_of_ble_eq_true rfl) (refs_vals _),rfl,.cons i3_0.sq (.nil)⟩
 ·cases h
  exact⟨T4,[a4_0,a4_1],rfl,t4.sq (Nat.le_of_ble_eq_true rfl) (refs_vals _),rfl,.cons i4_0.sq (.cons i4_1.sq (.nil))⟩
 ·cases h
  exact⟨T5,[a5_0],rfl,t5.sq (Nat.le_of_ble_eq_true rfl) (refs_vals _),rfl,.cons i5_0.sq (.nil)⟩
 ·cases h
  exact⟨T6,[a6_0,a6_1],rfl,t6.sq (Nat.le_of_ble_eq_true rfl) (refs_vals _),rfl,.cons i6_0.sq (.cons i6_1.sq (.nil))⟩
 ·cases h
  exact⟨T7,[a7_0],rfl,t7.sq (Nat.le_of_ble_eq_true rfl) (refs_vals _),rfl,.cons i7_0.sq (.nil)⟩
 ·cases h
  exact⟨T8,[],rfl,t8.sq (Nat.le_of_ble_eq_true rfl) (refs_vals _),rfl,.nil⟩
 ·cases h
  exact⟨T9,[a9_0,a9_1],rfl,t9.sq (Nat.le_of_ble_eq_true rfl) (refs_vals _),rfl,.cons i9_0.sq (.cons i9_1.sq (.nil))⟩
 ·cases h
  exact⟨T10,[],rfl,t10.sq (Nat.le_of_ble_eq_true rfl) (refs_vals _),rfl,.nil⟩
 ·cases h
  exact⟨T11,[],rfl,t11.sq (Nat.le_of_ble_eq_true rfl) (refs_vals _),rfl,.nil⟩
 ·cases h
  exact⟨T12,[a12_0],rfl,t12.sq (Nat.le_of_ble_eq_true rfl) (refs_vals _),rfl,.cons i12_0.sq (.nil)⟩
 ·cases h
  exact⟨T13,[],rfl,t13.sq (Nat.le_of_ble_eq_true rfl) (refs_vals _),rfl,.nil⟩
 ·cases h
  exact⟨T14,[a14_0],rfl,t14.sq (Nat.le_of_ble_eq_true rfl) (refs_vals _),rfl,.cons i14_0.sq (.nil)⟩
 ·cases h
  exact⟨T15,[],rfl,t15.sq (Nat.le_of_ble_eq_true rfl) (refs_vals _),rfl,.nil⟩
theorem counts_ok{K:PySem.W.Frag}{g:Addr}{ep:Nat}{k l:Tok}(hd:K.lookup g=some ⟨.type "dict",none,.dict #[⟨0,.int 0 k,.int 3 l⟩] ep, #[]⟩)(hn:(g==sysModules)=false):CountsOk K g:=by
 refine⟨[(0,k,.int 3 l)],[(.inl 0,.int 3)],⟨⟨ep,hd⟩,by show([0]:List Int).Nodup;decide,hn,fun r hr=>?_⟩,.cons ⟨rfl,_,rfl⟩ .nil,fun p n k h=>?_⟩
 ·rw[List.mem_singleton.mp hr]
  exact small16 0 List.mem_cons_self
 ·obtain⟨h1,h2⟩:=shape_lt h
  have hp:p=0∨p=1∨p=2∨p=3∨p=4∨p=5∨p=6∨p=7∨p=8∨p=9∨p=10∨p=11∨p=12∨p=13∨p=14∨p=15:=by omega
  rcases hp with rfl | rfl | rfl | rfl | rfl | rfl | rfl | rfl | rfl | rfl | rfl | rfl | rfl | rfl | rfl | rfl<;>(cases h;rfl)
def AnsD(K:PySem.W.Frag)(mg:Str→Option Value)(g:Addr):Prop:= ∃f0 f1 f2 f3 f4 f5 f6 f7 f8 f9 f10 f11 f12 f13 f14 f15:Addr,∃k0 k1 k2 k3 k4 k5 k6 k7 k8 k9 k10 k11 k12 k13 k14 k15:Tok,KDct K g (rowsOf [(0,k0,f0),(1,k1,f1),(2,k2,f2),(3,k3,f3),(4,k4,f4),(5,k5,f5),(6,k6,f6),(7,k7,f7),(8,k8,f8),(9,k9,f9),(10,k10,f10),(11,k11,f11),(12,k12,f12),(13,k13,f13),(14,k14,f14),(15,k15,f15)])∧mg "open_house"=some (.ref f0)∧mg "book"=some (.ref f1)∧mg "cancel"=some (.ref f2)∧mg "arrive"=some (.ref f3)∧mg "walkin"=some (.ref f4)∧mg "leave"=some (.ref f5)∧mg "stay"=some (.ref f6)∧mg "pass_time"=some (.ref f7)∧mg "plan"=some (.ref f8)∧mg "quote"=some (.ref f9)∧mg "trouble"=some (.ref f10)∧mg "tell_off"=some (.ref f11)∧mg "free_now"=some (.ref f12)∧mg "tables_now"=some (.ref f13)∧mg "party_now"=some (.ref f14)∧mg "state_now"=some (.ref f15)
theorem ansD_of{K:PySem.W.Frag}{h:Heap}{mg:Str→Option Value}(X:K.In h)(G:h.Ns mainGlobals mg){g f0 f1 f2 f3 f4 f5 f6 f7 f8 f9 f10 f11 f12 f13 f14 f15:Addr}{ep:Nat}{k0 k1 k2 k3 k4 k5 k6 k7 k8 k9 k10 k11 k12 k13 k14 k15:Tok}
  (hd:K.lookup g=some ⟨.type "dict",none,.dict #[⟨0,.int 0 k0,.ref f0⟩,⟨1,.int 1 k1,.ref f1⟩,⟨2,.int 2 k2,.ref f2⟩,⟨3,.int 3 k3,.ref f3⟩,⟨4,.int 4 k4,.ref f4⟩,⟨5,.int 5 k5,.ref f5⟩,⟨6,.int 6 k6,.ref f6⟩,⟨7,.int 7 k7,.ref f7⟩,⟨8,.int 8 k8,.ref f8⟩,⟨9,.int 9 k9,.ref f9⟩,⟨10,.int 10 k10,.ref f10⟩,⟨11,.int 11 k11,.ref f11⟩,⟨12,.int 12 k12,.ref f12⟩,⟨13,.int 13 k13,.ref f13⟩,⟨14,.int 14 k14,.ref f14⟩,⟨15,.int 15 k15,.ref f15⟩] ep, #[]⟩)(hn:(g==sysModules)=false)
  (n0:NS K "open_house" f0)(n1:NS K "book" f1)(n2:NS K "cancel" f2)(n3:NS K "arrive" f3)(n4:NS K "walkin" f4)(n5:NS K "leave" f5)(n6:NS K "stay" f6)(n7:NS K "pass_time" f7)(n8:NS K "plan" f8)(n9:NS K "quote" f9)(n10:NS K "trouble" f10)(n11:NS K "tell_off" f11)(n12:NS K "free_now" f12)(n13:NS K "tables_now" f13)(n14:NS K "party_now" f14)(n15:NS K "state_now" f15):AnsD K mg g:=
 ⟨f0,f1,f2,f3,f4,f5,f6,f7,f8,f9,f10,f11,f12,f13,f14,f15,k0,k1,k2,k3,k4,k5,k6,k7,k8,k9,k10,k11,k12,k13,k14,k15,kdct_of hd hn rfl,PySem.W.mg_of X G n0,PySem.W.mg_of X G n1,PySem.W.mg_of X G n2,PySem.W.mg_of X G n3,PySem.W.mg_of X G n4,PySem.W.mg_of X G n5,PySem.W.mg_of X G n6,PySem.W.mg_of X G n7,PySem.W.mg_of X G n8,PySem.W.mg_of X G n9,PySem.W.mg_of X G n10,PySem.W.mg_of X G n11,PySem.W.mg_of X G n12,PySem.W.mg_of X G n13,PySem.W.mg_of X G n14,PySem.W.mg_of X G n15⟩
theorem ans_ok{K:PySem.W.Frag}{mg:Str→Option Value}{t:Adr}(T:Txt K mg t)(h:AnsD K mg t.g_ANSWERERS):AnsOk K t:=by
 obtain⟨f0,f1,f2,f3,f4,f5,f6,f7,f8,f9,f10,f11,f12,f13,f14,f15,k0,k1,k2,k3,k4,k5,k6,k7,k8,k9,k10,k11,k12,k13,k14,k15,hd,e0,e1,e2,e3,e4,e5,e6,e7,e8,e9,e10,e11,e12,e13,e14,e15⟩:=h
 cases Option.some.inj (e0.symm.trans T.mg_open_house)
 cases Option.some.inj (e1.symm.trans T.mg_book)
 cases Option.some.inj (e2.symm.trans T.mg_cancel)
 cases Option.some.inj (e3.symm.trans T.mg_arrive)
 cases Option.some.inj (e4.symm.trans T.mg_walkin)
 cases Option.some.inj (e5.symm.trans T.mg_leave)
 cases Option.some.inj (e6.symm.trans T.mg_stay)
 cases Option.some.inj (e7.symm.trans T.mg_pass_time)
 cases Option.some.inj (e8.symm.trans T.mg_plan)
 cases Option.some.inj (e9.symm.trans T.mg_quote)
 cases Option.some.inj (e10.symm.trans T.mg_trouble)
 cases Option.some.inj (e11.symm.trans T.mg_tell_off)
 cases Option.some.inj (e12.symm.trans T.mg_free_now)
 cases Option.some.inj (e13.symm.trans T.mg_tables_now)
 cases Option.some.inj (e14.symm.trans T.mg_party_now)
 cases Option.some.inj (e15.symm.trans T.mg_state_now)
 exact⟨_,_,hd,kv_refs _,rfl,rfl,rfl,rfl,rfl,rfl,rfl,rfl,rfl,rfl,rfl,rfl,rfl,rfl,rfl,rfl⟩
theorem last_mk{P:Program}{w:World}{K:PySem.W.Frag}{h:Heap}{mg:Str→Option Value}{fa f g0 g1 g2:Addr}(X:K.In h)(G:h.Ns mainGlobals mg)(hfa:mg "answers"=some (.ref fa))
  (hT: ∃t:Adr,Txt K mg t∧t.f_answers=f∧t.g_RANGES=g0∧t.g_ROW_COUNTS=g1∧t.g_ANSWERERS=g2)(hR:RangesOk K g0)(hC:CountsOk K g1)(hA:AnsD K mg g2):
  ∃fd:FuncData,(∀(s:Shared) (us:List Value),us.length=(["calls"]:List Str).length →BindsTo s fd ⟨us,[]⟩ ((["calls"]:List Str).zip us))∧ ∀base:Heap,K.In base→base.Ns mainGlobals mg→FnOk P w K mg base CX0 16 fa fd ["calls"] (spAns K):=by
 obtain⟨t,T,_,rfl,rfl,rfl⟩:=hT
 cases Option.some.inj (hfa.symm.trans T.mg_answers)
 refine⟨t.d_answers,?_,fun base _ _=>ok_answers T hR hC (ans_ok T hA)⟩
 obtain⟨oc,od,kV,doc,pm,an,cdv,ct,osl,e,_⟩:=T.fu_answers.ex
 rw[e]
 exact fun s us hu=>match us,hu with | [_],_=> .of_eq rfl
end My
namespace PySem.W.Fast
def tw12366198819874643842:=0
def tw9360474767682968969:=0
def tw17921583166005189393:=0
def tw15204472054416300543:=0
def tw9848120921100020630:=0
def tw16198672568724092604:=0
def tw17806784596267900347:=0
def tw17396325719983625559:=0
def tw1090697790697313644:=0
def tw3491650644805925501:=0
def tw5502153872796223983:=0
def tw8241505470334949606:=0
def tw4520017662812213779:=0
def tw17505418452975675000:=0
def tw7157312899380712436:=0
def tw9062691482836480833:=0
def tw17329448466659911665:=0
def tw9551680967239312163:=0
def tw17260149786571550078:=0
def tw403068339438115271:=0
def tw11735522934864159736:=0
def tw16234223463470623692:=0
def tw9023735359608159589:=0
def tw2550601233023421354:=0
def tw12925418517886971764:=0
def tw1217599503771409635:=0
def tw9679084424362505378:=0
def tw13319546057556968528:=0
def tw12734809899860510620:=0
def tw8992366762092891464:=0
def tw17486322809784179243:=0
def tw7020289541083228429:=0
def tw903779169972881024:=0
def tw10762473346727751192:=0
def tw9230748571727803469:=0
def tw5893796677069851916:=0
def tw9558170763652851054:=0
def tw11686496381205968980:=0
def tw8908290746566048219:=0
def tw2493872540485694411:=0
def tw17570488674939342943:=0
def tw9415094530170972235:=0
def tw11039774696759333169:=0
def tw10299380926346555946:=0
def tw17435467810617729048:=0
def tw2823648157561355807:=0
def tw15211320291553412773:=0
def tw4632187051070152909:=0
def tw2265821645485004239:=0
def tw14160314577060505664:=0
def tw8597277946380136585:=0
def tw3540358678548641423:=0
def tw7235790287765167469:=0
def tw15573567720666057996:=0
def tw6573741209026623346:=0
def tw743498754741069281:=0
def tw7329709231534751745:=0
def tw13664138899481300768:=0
def tw7506228440283593911:=0
def tw9077888536234191:=0
def tw12455053717750951340:=0
def tw5611422218902920003:=0
def tw17359252215529052504:=0
def tw14027024994896480279:=0
def tw6015413999358601244:=0
def tw17530085307603167269:=0
def tw7158338595119633081:=0
def tw12873618992179571240:=0
def tw4960037033352827348:=0
def tw18015508430158200715:=0
def tw5544543050881348350:=0
def tw14592032447793319702:=0
def tw14192321161406537023:=0
def tw691557763495438753:=0
def tw3696476816719116169:=0
def tw585403984764275918:=0
def tw15061379243636062195:=0
def tw15069574390756501334:=0
def tw7362041364850055803:=0
def tw10178816384236042025:=0
def tw9800002198071266524:=0
def tw9036935032401783839:=0
def tw7527343065648782003:=0
def tw4220802608828884266:=0
def tw17964639361068063070:=0
def tw7763238686535646342:=0
def tw8438591185730984184:=0
def tw17738033296037271145:=0
def tw9187691011198592482:=0
def tw4331197245492762155:=0
def tw13425966875043352811:=0
def tw3946046241999348233:=0
def tw782108028818172563:=0
def tw6502320082663110530:=0
def tw10742112542600129510:=0
def tw2644276476722653157:=0
def tw12921959420849804546:=0
def tw3336533607905438003:=0
def tw12973012290245177449:=0
def tw6779202974548604714:=0
def tw3470613484926290998:=0
def tw16948017177548979905:=0
def tw1910491535437437732:=0
def tw2823345150192568879:=0
def tw10868670802347795885:=0
def tw17646975241607134701:=0
def tw606911537872356150:=0
def tw3885550790429972018:=0
def tw16921829637099570870:=0
def tw14678635398425541230:=0
def tw779992231309275073:=0
def tw12060028034824019314:=0
def tw14743141653678202149:=0
def tw15790869250919978497:=0
def tw12839756674841628105:=0
def tw14874601686804571453:=0
def tw1413941574058441814:=0
def tw7109417153232652748:=0
def tw13301453652771696557:=0
def tw5353501364781595454:=0
def tw976478605819719764:=0
def tw2571750467338110939:=0
def tw13180089302860543515:=0
def tw1004233368525069336:=0
def tw5704945044208092764:=0
def tw7733541221682421301:=0
def tw12652825214255896482:=0
def tw7695614412987334491:=0
def tw7818366971436391132:=0
def tw284535195821563593:=0
def tw2109413921372422108:=0
def tw3194063251319625727:=0
def tw13917625849005332471:=0
def tw9117856894545594160:=0
def tw3737719893760349945:=0
def tw18182184818470136478:=0
def tw9482566224581851304:=0
def tw2056653791173789576:=0
def tw12383423973057230860:=0
def tw14328964726106104181:=0
def tw4001083539034953024:=0
def tw10324767655025904283:=0
def tw5243245270684856838:=0
def tw16727312826586399297:=0
def tw8540211449614629978:=0
def tw12913206607884068586:=0
def tw11252274311380557637:=0
def tw4310565586751120058:=0
def tw11860990848585283163:=0
def tw419515063137304578:=0
def tw14884015248248789611:=0
def tw11578761724476618367:=0
def tw3786258090777915524:=0
def tw8826743221850725607:=0
def tw5000467201108238379:=0
def tw11283084431415593880:=0
def tw1808164392440169617:=0
def tw663565230902086717:=0
def tw17277755029595359635:=0
def tw3205510314688870556:=0
def tw9312952244767457019:=0
def tw9304615791124855064:=0
def tw6263817555251009819:=0
def tw756070665794625992:=0
def tw2601923543080681289:=0
def tw7349182776920082360:=0
def tw17144035446425568755:=0
def tw13550741112312747421:=0
def tw7844941192404797917:=0
def tw16752600986695688342:=0
def tw15528330798184603596:=0
def tw9442838219416162760:=0
def tw11959531975249715821:=0
def tw17651227153001601702:=0
def tw12375784120835652163:=0
def tw13649822641862675085:=0
def tw2106569114317562732:=0
def tw17038232252339335664:=0
def tw16626537275668406454:=0
def tw16694890139860436108:=0
def tw4393908626198670800:=0
def tw11392839012638789005:=0
def tw15174248465459421485:=0
def tw14271321565090108275:=0
def tw15855776698834729916:=0
def tw7154385045542058680:=0
def tw15046758271289495673:=0
def tw11434396112736393658:=0
def tw10502455352961406913:=0
def tw8335138614474794027:=0
def tw11810217479873204653:=0
def tw3450336662762849853:=0
def tw10186409396344794834:=0
def tw11853462922908190625:=0
def tw11595968381863525953:=0
def tw12334403282306728661:=0
def tw10458848716980170543:=0
def tw14201856123237607131:=0
def tw9560075503237138840:=0
def tw16811736980182874960:=0
def tw14104553835218722819:=0
def tw13496579137317401323:=0
def tw761577651710271244:=0
def tw1994385460373599722:=0
def tw15990477525781855674:=0
def tw3219077338585463233:=0
def tw2280839880668377827:=0
def tw7920483798814883976:=0
def tw15239839947017286147:=0
def tw14902291987532667329:=0
def tw8462137467623707214:=0
def tw2677309968767780702:=0
def tw14648430675404532818:=0
def tw10480363120328989511:=0
def tw6193453497716446240:=0
def tw5657786785412199741:=0
def tw11490942704702209660:=0
def tw8329851137340198807:=0
def tw15863352273944332038:=0
def tw954482570556204023:=0
def tw9772981062019080431:=0
def tw2665343870119444046:=0
def tw2325312937227820304:=0
def tw8635042275928101717:=0
def tw10461944874837653100:=0
def tw4367336082975850162:=0
def tw9256077413471197011:=0
def tw17421605212780435793:=0
def tw16638225880121159359:=0
def tw1067050801036614310:=0
def tw13687220532698500917:=0
def tw13923632388688611474:=0
def tw4447802641274599800:=0
def tw15659379265200091052:=0
def tw17484037410135584574:=0
def tw7498274231228872772:=0
def tw11115402949334811043:=0
def tw6486265419970050531:=0
def tw13631345022165977821:=0
def tw12780982610726819979:=0
def tw8212351307513176243:=0
def tw10381567192835340756:=0
def tw14056188487975477082:=0
def tw12916881886773868635:=0
def tw2882033471391185202:=0
end PySem.W.Fast
open PySem PySem.W PyProof.Rows
set_option maxRecDepth 100000 in
set_option maxHeartbeats 0 in
theorem PySem.Challenge.cw_pushedtables_s01_answers_holds : PySem.Challenge.rw_pushedtables_s01_answers.Holds := by
 w_on;k_headS;(case hw=>exact⟨[.list [.int 10]],by decide +kernel,by decide +kernel⟩)
 k_fillS
 refine L2.walk_specK (r:=PySem.Challenge.rw_pushedtables_s01_answers) (k:=16) (CX:=L2.CX0) (ps:=["calls"]) (sp:=My.spAns) (by decide +kernel) rfl rfl ⟨rfl,by decide,by decide⟩ (fun w h Y=>PySem.W.kIn_of Y) ?F ?S (fun _ _ _ _ z=>z)
 case F=>
  intro w mg fa h Y KX G hmg
  refine' My.last_mk KX G hmg ?T ?R ?C ?A
  case T=>
   apply My.txt_mk KX G
   all_goals first | (unfold My.NS;k_is) | (unfold My.NSn;k_is) | (unfold My.NSi;k_is) | (unfold L2.NoAttr;k_is) | exact L2.fun_mk (by k_is) (by k_is) (by k_is) | exact⟨by k_is,by k_is,by k_is,by k_is⟩ | exact⟨by k_is,by k_is,by k_is⟩
  case R=>
   apply My.ranges_ok
   all_goals first | k_is | rfl | exact⟨_,_,_,by k_is⟩ | exact⟨_,_,_,_,_,by k_is⟩
  case C=>
   apply My.counts_ok
   all_goals first | k_is | rfl
  case A=>
   apply My.ansD_of KX G
   all_goals first | k_is | (unfold My.NS;k_is) | rfl
 case S=>
  intro K H xs a hO hwi hask hx
  cases hx with
  | cons h1 h2=>
   cases h2
   cases h1 with
   | lst hs ha=>
    have e:=L2.ints_dw a.1 _ ha
    subst e
    have q:((Codec.inLen 0 16000 a.1&&a.1.all (Codec.inInt _ _))&&true)=true:=hwi
    rw[Bool.and_eq_true,Bool.and_eq_true]at q
    exact⟨_,a.1,rfl,hs,(Codec.inNat_iff.mp q.1.1).2,hask,fun H' p hp=> .lst (L2.SqL.of hp) (L2.dw_ints _)⟩
#print axioms PySem.Challenge.cw_pushedtables_s01_answers_holds
