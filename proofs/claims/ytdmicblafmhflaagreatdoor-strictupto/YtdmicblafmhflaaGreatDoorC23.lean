/- slices.Compact at predicates. -/
import Derived.Test.YtdmicblafmhflaaGreatDoorC22
import Derived.BigQuiet
import Derived.Deep.QuietTactic
import Derived.Test.YtdmicblafmhflaaGreatDoorC21
import Derived.Deep.RegionLaw
import Derived.Test.YtdmicblafmhflaaGreatDoorC17
import Derived.Maps.RangeWalk
import Derived.Sort.MapsRangeIn
set_option linter.unusedSimpArgs false
set_option linter.unusedVariables false
set_option maxHeartbeats 4000000
set_option maxRecDepth 100000
namespace Go.Proofs.YtdmicblafmhflaaGreatDoor
section
open Go.RowKit
theorem Tryz.Hb:(Tryz.prog.fieldsOf 112).toList=[{name:= "Name",type:=9,offset:=0,embedded:=false,tag:= "",pkgPath:= "",byteOffset:=0},{name:= "Places",type:=3,offset:=1,embedded:=false,tag:= "",pkgPath:= "",byteOffset:=16}]:=by kernel_rfl
theorem Tryz.Ha:Tryz.prog.underlying 112=some (.struct (Tryz.prog.fieldsOf 112)):=by kernel_rfl
theorem Tryz.O0:Tryz.prog.stoodInHeld 112=false:=by kernel_rfl
theorem Tryz.LJ:Tryz.prog.eqGuardType Tryz.prog.depth 112=false:=by kernel_rfl
theorem Tryz.OL(w:World):(zeroValue 112).run Tryz.prog w=.ok (.agg #[.string ByteArray.empty,.int .i64 0]) w:=by kernel_rfl
theorem oK(s t:ByteArray)(a b:Int)(w:World):(Op.equalIn 10000 112 (.agg #[.string s,.int .i64 a]) (.agg #[.string t,.int .i64 b])).run Tryz.prog w=.ok (decide (s=t∧a=b)) w:=by
 have h3:Tryz.prog.underlying 3=some (.int .i64):=Tryz.underlying3
 have h9:Tryz.prog.underlying 9=some .string:=Tryz.underlying9
 rw[run_equalIn_struct w 9999 112 _ _ Tryz.Ha Tryz.O0,Tryz.Hb]
 have eo:(s=t)↔(s.toList=t.toList):=⟨fun e=>by rw[e],fun e=>Tb.toList_inj e⟩
 simp only[Op.eqFields,part,isAgg,run_underlying h3,run_underlying h9,eo]
 simp[part,isAgg,run_underlying h3,run_underlying h9,run_equalIn_int w 9998 3 .i64 .i64 a b h3,run_equalIn_string w 9998 9 s t h9]
 by_cases h1:a=b<;>by_cases h2:s.toList=t.toList<;>simp[h1,h2]
theorem CJ(s t:ByteArray)(a b:Int)(w:World):(binOp .eql 112 (.agg #[.string s,.int .i64 a]) (.agg #[.string t,.int .i64 b])).run Tryz.prog w=.ok (.bool (decide (s=t∧a=b))) w:=by
 rw[run_eql_struct,oK]
 rfl
theorem BS(s t:ByteArray)(a b:Int)(w:World):(binOp .neq 112 (.agg #[.string s,.int .i64 a]) (.agg #[.string t,.int .i64 b])).run Tryz.prog w=.ok (.bool (!decide (s=t∧a=b))) w:=by
 rw[run_neq_struct,oK]
 rfl
theorem pe(P:Program)(w:World)(t ty elem:TypeId)(z:Value)(g o n c:Nat)(cur:Array Value)(T:TypeId)(cs:List Value)(hu:P.underlying t=some (.slice elem))(hz:∀w,(zeroValue elem).run P w=.ok z w)(bA:(Builtin.zeroCells z.cells n).toList=cs)
 (hg:w.heap[g]?=some (.cells cur T (0,0)))(jF:o+cs.length≤cur.size)(h1:∀v∈cs,v.oneCell'=true)(hn:0<n):
 (Builtin.clear_ #[t] ty #[.slice (some ⟨g,o,none⟩) n c]).run P w=.ok (.tuple #[]) (w.setRow g (cur.toList.take o++cs++cur.toList.drop (o+cs.length)).toArray):=by
 have eo:=run_storeCells_at P g o T cs 0 cur w hg (by simpa using jF) h1
 obtain⟨m,rfl⟩:∃m,n=m+1:=⟨n-1,by omega⟩
 simp only[Nat.add_zero]at eo
 simp[Builtin.clear_,run_underlying hu,hz,bA,eo]
theorem zu(R:List Pd.Pr){j:Nat}(hj:j<R.length)(x:Pd.Pr):((au R).set (j*2) (.string x.1)).set (j*2+1) (.int .i64 x.2)=au (R.set j x):=by
 induction R generalizing j with
 | nil=>simp at hj
 | cons a R ih=>
  cases j with
  | zero=>simp[eG]
  | succ j=>
   have:=ih (j:=j) (by simpa using hj)
   rw[show(j+1)*2+1=(j*2+1)+1+1 by omega,show(j+1)*2=j*2+1+1 by omega]
   simp only[List.set_cons_succ,eG,this]
theorem wg(R:List Pd.Pr)(j:Nat):(au R).take (j*2)=au (R.take j):=by
 induction R generalizing j with
 | nil=>simp[au]
 | cons a R ih=>
  cases j with
  | zero=>simp[au]
  | succ j=>rw[List.take_succ_cons,eG,eG,show(j+1)*2=j*2+1+1 by omega,List.take_succ_cons,List.take_succ_cons,ih]
theorem K4(n:Nat):(Builtin.zeroCells (Value.agg #[.string ByteArray.empty,.int .i64 0]).cells n).toList.length=n*2∧∀v∈(Builtin.zeroCells (Value.agg #[.string ByteArray.empty,.int .i64 0]).cells n).toList,v.oneCell'=true:=by
 have e:(Value.agg #[.string ByteArray.empty,.int .i64 0]).cells=#[.string ByteArray.empty,.int .i64 0]:=rfl
 rw[e]
 refine⟨by simp[Builtin.zeroCells], ?_⟩
 intro v hv
 simp only[Builtin.zeroCells,Array.toList_map,List.mem_map]at hv
 obtain⟨i,_,rfl⟩:=hv
 have h2:(#[Value.string ByteArray.empty,.int .i64 0]:Array Value).size=2:=rfl
 rw[h2]
 have:i%2=0∨i%2=1:=by omega
 rcases this with h | h<;>rw[h]<;>rfl
structure oD(B:Nat)(w wr:World)(g pc:Nat)(D:List Pd.Pr)(m j:Nat)(R:List Pd.Pr):Prop where
 len:R.length=D.length
 lt:j<m
 le:m≤D.length
 T4:R.take j=Pd.mw (D.take m)
 left:R.drop (m-1)=D.drop (m-1)
 own:wr.ownsRow B 112 2 (.slice (some ⟨g,0,none⟩) D.length pc) D.length (au R)
 kept:Kb [g] w wr
theorem oD.get{B:Nat}{w wr:World}{g pc:Nat}{D:List Pd.Pr}{m j:Nat}{R:List Pd.Pr}(h:oD B w wr g pc D m j R){i:Nat}(hi:m-1≤i)(hl:i<D.length):R[i]'(by rw[h.len];exact hl)=D[i]:=by
 have:=congrArg (fun l=>l[i-(m-1)]?) h.left
 simp only[List.getElem?_drop]at this
 rw[show m-1+(i-(m-1))=i by omega,List.getElem?_eq_getElem hl,List.getElem?_eq_getElem (by rw[h.len];exact hl)]at this
 simpa using this
theorem oD.same{B:Nat}{w wr:World}{g pc:Nat}{D:List Pd.Pr}{m j:Nat}{R:List Pd.Pr}(h:oD B w wr g pc D m j R)(hm:m<D.length)(he:D[m]=D[m-1]'(by omega)){wx:World}(hx:wx.heap=wr.heap)(hk:Kb [g] w wx):oD B w wx g pc D (m+1) j R:=by
 refine⟨h.len,by have:=h.lt;omega,hm, ?_, ?_,⟨h.own.1,by rw[hx];exact h.own.2⟩,hk⟩
 · rw[Pd.jo D hm (by have:=h.lt;omega),if_pos he]
   exact h.T4
 · have:=congrArg (fun l=>l.drop 1) h.left
   simp only[List.drop_drop]at this
   have h0:=h.lt
   rw[show m-1+1=m by omega]at this
   exact this
theorem oD.next{B:Nat}{w wr:World}{g pc:Nat}{D:List Pd.Pr}{m j:Nat}{R:List Pd.Pr}(h:oD B w wr g pc D m j R)(hm:m<D.length)(he:¬D[m]=D[m-1]'(by omega)){wx:World}(hx:wx.heap=wr.heap)(hk:Kb [g] w wx):
 oD B w ((wx.setCell ⟨g,j*2,none⟩ (.string (D[m]).1)).setCell ⟨g,j*2+1,none⟩ (.int .i64 (D[m]).2)) g pc D (m+1) (j+1) (R.set j D[m]):=by
 have hox:wx.ownsRow B 112 2 (.slice (some ⟨g,0,none⟩) D.length pc) D.length (au R):=⟨h.own.1,by rw[hx];exact h.own.2⟩
 have aC:=h.lt
 have hlen:=h.len
 refine⟨by simpa using hlen,by omega,hm, ?_, ?_, ?_,(hk.trans (Kb.setCell wx ⟨g,j*2,none⟩ _)).trans (Kb.setCell _ ⟨g,j*2+1,none⟩ _)⟩
 · rw[Pd.jo D hm (by omega),if_neg he,←h.T4,List.take_add_one,List.getElem?_set_self (by omega),List.take_set_of_le (Nat.le_refl _)]
   rfl
 · rw[List.drop_set_of_lt (by omega)]
   have:=congrArg (fun l=>l.drop 1) h.left
   simp only[List.drop_drop]at this
   rw[show m-1+1=m by omega]at this
   exact this
 · have h1:=(World.ownsRow.stored hox (j*2) (.string (D[m]).1)).1
   have h2:=(World.ownsRow.stored h1 (j*2+1) (.int .i64 (D[m]).2)).1
   rw[zu R (by omega)]at h2
   exact h2
theorem ui(B:Nat)(w:World)(pd:Option Addr)(pc:Nat)(D:List Pd.Pr)(aj:w.ownsRow B 112 2 (.slice pd D.length pc) D.length (au D))(hD:D.length≤2000000):
 Calls Tryz.prog 116 #[.slice pd D.length pc] w fun e w'=>e=.returned (.slice pd (Pd.mw D).length pc)∧w'.ownsRow B 112 2 (.slice pd (Pd.mw D).length pc) (Pd.mw D).length (au (Pd.mw D))∧Kb (Value.ownBlock (.slice pd D.length pc)).toList w w':=by
 by_cases h2:D.length<2
 · have hc:Pd.mw D=D:=by
    match D,h2 with
    | [],_=>rfl
    | [x],_=>rfl
   rw[hc]
   go_enter Tryz.func116,Tryz.ntmps116
   go_wp2_with fail
   go_ret
   exact⟨rfl,aj,Kb.refl _ _⟩
 · obtain⟨g,rfl,hg,na,bA⟩:=ax aj (by omega)
   have heq:=CJ
   have aj9:=BS
   have zU:∀(op:BinOp) (x y:Operand) (xs ys:Array Value) (w:World),(eqGuard op 112 x y (.agg xs) (.agg ys)).run Tryz.prog w=.ok () w:=fun op x y xs ys w=>run_eqGuard_agg w op 112 x y xs ys Tryz.LJ
   go_enter Tryz.func116,Tryz.ntmps116
   go_wp2_with fail
   go_loopw [3] (fun v wr=>∃k m:Nat,k+1≤D.length∧v=.int .i64 ((k:Int)+1)∧wr=w.drewN m∧Pd.mw (D.take (k+1))=D.take (k+1)) (fun v _=>D.length-(intOf v).toNat)
   case atStart=>exact⟨0,0,by omega,rfl,rfl,by rw[Pd.Cp D (by omega)];cases D with | nil=>simp at h2 | cons a t=>rfl⟩
   case round=>
    obtain⟨k,m,hk,rfl,rfl,YB⟩:=hrel
    have AN:Hid (Pd.mw (D.take (k+1))=D.take (k+1)):=YB
    clear YB
    by_cases aC:k+1<D.length
    · have c0:=bA _ _ (aU D (k+1) aC).1
      have c1:=bA _ _ (aU D (k+1) aC).2
      have b0:=bA _ _ (aU D k (by omega)).1
      have b1:=bA _ _ (aU D k (by omega)).2
      generalize hx:D[k+1]=x at c0 c1
      generalize hy:D[k]=y at b0 b1
      have HX:Hid (D[k+1]=x):=hx
      have HY:Hid (D[k]=y):=hy
      clear hx hy bA
      cases hv:decide (x.1=y.1∧(x.2:Int)=(y.2:Int))
      case false=>
       go_upto_region 6 with fail
       go_quiet (fail)
       go_wp2_with fail
       go_roundw
       case rel=>
        refine⟨k+1,_,by omega,by go_num,rfl, ?_⟩
        have e0:D.take (k+1+1)=D.take (k+1)++[D[k+1]]:=by rw[List.take_add_one,List.getElem?_eq_getElem aC];rfl
        rw[Pd.jo D aC (by omega),if_neg,AN.out,e0]
        · intro e
          have e2:x=y:=by rw[←HX.out,←HY.out];exact e
          subst e2
          simp at hv
       case measure=>simp[intOf];omega
      case true=>
       have Rg:x=y:=by
        simp at hv
        exact Prod.ext hv.1 (by have:=hv.2;omega)
       have vo:Hid (∀q:Nat,oD B w (w.drewN q) g pc D (k+2) (k+1) D):=by
        intro q
        refine⟨rfl,by omega,aC, ?_,rfl,⟨aj.1,aj.2⟩,⟨rfl,rfl,rfl,Nat.le_refl _,fun _ _ _=>rfl⟩⟩
        rw[Pd.jo D aC (by omega),if_pos,AN.out]
        rw[HX.out,Rg,←HY.out]
        rfl
       go_upto_region 6 with fail
       go_quiet (fail)
       go_wp2_with fail
       clear Rg c0 c1 b0 b1 hv HX HY AN
       go_loopw [3,5] (fun a b wr=>∃(j q:Nat) (R:List Pd.Pr),a=.int .i64 j∧b=.int .i64 ((q:Int)+1)∧oD B w wr g pc D (k+q+2) j R) (fun _ b _=>D.length-(intOf b).toNat)
       case atStart=>exact⟨k+1,0,D,by go_num,rfl,vo.out _⟩
       case round=>
        obtain⟨j,q,R,rfl,rfl,sU⟩:=hrel
        have AN:Hid (oD B w wr g pc D (k+q+2) j R):=sU
        have hRl:=sU.len
        have Lh:=sU.lt
        have hle:=sU.le
        obtain⟨g',e0,W9,aef,bA⟩:=ax sU.own (by omega)
        obtain rfl:g=g':=by simpa using e0
        by_cases pw:k+q+2<D.length
        · have c0:=bA _ _ (aU R (k+q+2) (by omega)).1
          have c1:=bA _ _ (aU R (k+q+2) (by omega)).2
          have b0:=bA _ _ (aU R (k+q+1) (by omega)).1
          have b1:=bA _ _ (aU R (k+q+1) (by omega)).2
          rw[sU.get (by omega) pw]at c0 c1
          rw[sU.get (by omega) (show k+q+1<D.length by omega)]at b0 b1
          clear sU
          generalize hx:D[k+q+2]=x at c0 c1
          generalize hy:D[k+q+1]=y at b0 b1
          have HX:Hid (D[k+q+2]=x):=hx
          have HY:Hid (D[k+q+1]=y):=hy
          clear hx hy
          rw[show(k+q+2)*2=(k+1)*2+(q+1)*2 by omega]at c0 c1
          rw[show(k+q+1)*2=(k+1)*2+q*2 by omega]at b0 b1
          cases hv:decide (x.1=y.1∧(x.2:Int)=(y.2:Int))
          case true=>
           have HV:Hid (x=y):=by
            simp at hv
            exact Prod.ext hv.1 (by have:=hv.2;omega)
           go_upto_region 11 with fail
           go_quiet (fail)
           go_wp2_with fail
           go_roundw
           case rel=>exact⟨j,q+1,R,rfl,by go_num,AN.out.same pw (by rw[HX.out,HV.out,←HY.out];rfl) rfl ⟨AN.out.kept.os,AN.out.kept.tape,AN.out.kept.output,AN.out.kept.size,AN.out.kept.block⟩⟩
           case measure=>simp[intOf];omega
          case false=>
           have HV:Hid (¬x=y):=fun e=>by subst e;simp at hv
           have s0:∃v,wr.cell? ⟨g,j*2,none⟩=some v:=⟨_,bA _ _ (aU R j (by omega)).1⟩
           have s1:∃v,wr.cell? ⟨g,j*2+1,none⟩=some v:=⟨_,bA _ _ (aU R j (by omega)).2⟩
           obtain⟨v0,s0⟩:=s0
           obtain⟨v1,s1⟩:=s1
           have f0:wr.frozen? ⟨g,j*2,none⟩=false:=by
            obtain⟨cur,e⟩:=ay AN.out.own (b:=g) rfl
            simp[World.frozen?,e]
           have f1:wr.frozen? ⟨g,j*2+1,none⟩=false:=by
            obtain⟨cur,e⟩:=ay AN.out.own (b:=g) rfl
            simp[World.frozen?,e]
           clear bA
           go_upto_region 11 with fail
           go_quiet (fail)
           go_wp2_with fail
           go_roundw
           case rel=>
            refine⟨j+1,q+1,R.set j x,by go_num,by go_num, ?_⟩
            have:=AN.out.next pw (by rw[HX.out];intro e;exact HV.out (e.trans HY.out)) (wx:=wr.drewN nq) rfl ⟨AN.out.kept.os,AN.out.kept.tape,AN.out.kept.output,AN.out.kept.size,AN.out.kept.block⟩
            rw[HX.out]at this
            exact this
           case measure=>simp[intOf];omega
        · have CZ:k+q+2=D.length:=by omega
          rw[CZ]at sU Lh
          obtain⟨cur,Cw,Fe,Ih,sO⟩:∃cur:Array Value,wr.heap[g]?=some (.cells cur 112 (0,0))∧pc≤maxLen∧cur.size=pc*2∧cur.toList.take (D.length*2)=au R:=by
           rcases sU.own.2 with⟨e,_⟩ | ⟨g',cap,cur,e,_,q1,_,q4,q2,q3⟩
           · simp at e
           · simp only[Value.slice.injEq,Option.some.injEq,Addr.mk.injEq,and_true,true_and]at e
             obtain⟨rfl,rfl⟩:=e
             exact⟨cur,q1,q4,q2,q3⟩
          obtain⟨zs,ue⟩:∃zs,zs=(Builtin.zeroCells (Value.agg #[.string ByteArray.empty,.int .i64 0]).cells (D.length-j)).toList:=⟨_,rfl⟩
          obtain⟨eP,eA⟩:=K4 (D.length-j)
          rw[←ue]at eP eA
          obtain⟨row,bV⟩:∃row,row=(cur.toList.take (j*2)++zs++cur.toList.drop (j*2+zs.length)).toArray:=⟨_,rfl⟩
          have aaW:∀ty,(Builtin.clear_ #[144] ty #[.slice (some ⟨g,j*2,none⟩) (D.length-j) (pc-j)]).run Tryz.prog wr=.ok (.tuple #[]) (wr.setRow g row):=fun ty=>by rw[bV];exact pe Tryz.prog wr 144 ty 112 _ g (j*2) (D.length-j) (pc-j) cur 112 zs Tryz.underlying144 Tryz.OL ue.symm Cw (by omega) eA (by omega)
          have km:Hid ((wr.setRow g row).ownsRow B 112 2 (.slice (some ⟨g,0,none⟩) (Pd.mw D).length pc) (Pd.mw D).length (au (Pd.mw D))∧Kb [g] w (wr.setRow g row)∧(Pd.mw D).length=j):=by
           subst bV
           have ht:=sU.T4
           rw[List.take_length]at ht
           have CU:(Pd.mw D).length=j:=by rw[←ht,List.length_take];omega
           have hB:B≤g:=(sU.own.lt g rfl).1
           have hmx:=aZ sU.own
           refine⟨⟨lP _,.inr ⟨g,pc,_,rfl,hB,bq wr g _ Cw,by omega,Fe, ?_, ?_⟩⟩,sU.kept.trans (Kb.setRow wr g _),CU⟩
           · simp[Ih,eP];omega
           · rw[CU,←ht,←wg,←sO]
             simp only[List.toList_toArray,List.append_assoc]
             rw[List.take_append_of_le_length (by simp[Ih];omega),List.take_take,List.take_take]
             congr 1
             omega
          clear sU bA AN Cw Ih sO ue eP eA bV
          go_wp2_with fail
          go_ret
          exact⟨by rw[km.out.2.2];rfl,km.out.1,km.out.2.1⟩
    · have CZ:D.take (k+1)=D:=List.take_of_length_le (by omega)
      have HE:Hid (Pd.mw D=D):=by
       have:=AN.out
       rw[CZ]at this
       exact this
      go_wp2_with fail
      go_ret
      rw[HE.out]
      exact⟨rfl,aj,⟨rfl,rfl,rfl,Nat.le_refl _,fun _ _ _=>rfl⟩⟩
end
/- slices.Delete of one row. -/
section
open Go.RowKit
theorem bO(g:Nat){T:TypeId}:∀(vs:List Value) (o:Nat) (cur:Array Value) (w:World),w.heap[g]?=some (.cells cur T (0,0))→o+vs.length≤cur.size→
 (w.setCells g o vs).heap[g]?=some (.cells (cur.toList.take o++vs++cur.toList.drop (o+vs.length)).toArray T (0,0))∧Kb [g] w (w.setCells g o vs)
 | [],o,cur,w,h,hl=>by
  refine⟨?_,Kb.refl _ _⟩
  simpa [World.setCells]using h
 | v::vs,o,cur,w,h,hl=>by
  have h1:=an w h o v
  rw[List.length_cons]at hl
  obtain⟨h2,h3⟩:=bO g vs (o+1) _ _ h1 (by simp;omega)
  refine⟨?_,(Kb.setCell w ⟨g,o,none⟩ v).trans h3⟩
  show((w.setCell ⟨g,o,none⟩ v).setCells g (o+1) vs).heap[g]?=_
  rw[h2]
  have e1:(cur.setIfInBounds o v).toList.take (o+1)=cur.toList.take o++[v]:=by
   rw[Array.toList_setIfInBounds,List.take_add_one,List.take_set_of_le (Nat.le_refl _),List.getElem?_set_self (by simp;omega)]
   rfl
  have e2:(cur.setIfInBounds o v).toList.drop (o+1+vs.length)=cur.toList.drop (o+(vs.length+1)):=by
   rw[Array.toList_setIfInBounds,List.drop_set_of_lt (by omega)]
   congr 1
   omega
  rw[e1,e2]
  simp
def e3:List Value:=[.string ByteArray.empty,.string ByteArray.empty,.string ByteArray.empty]
theorem Lv:(Builtin.zeroCells (Value.agg #[.string ByteArray.empty,.string ByteArray.empty,.string ByteArray.empty]).cells 1).toList=e3:=by
 have e:(Value.agg #[.string ByteArray.empty,.string ByteArray.empty,.string ByteArray.empty]).cells=#[.string ByteArray.empty,.string ByteArray.empty,.string ByteArray.empty]:=rfl
 rw[e]
 simp[Builtin.zeroCells]
 rfl
theorem zM(w:World)(g rc i j n:Nat)(xs:List Value)(hj:j=i+1)(hjn:j≤n)(aj:w.ownsRow 0 119 3 (.slice (some ⟨g,0,none⟩) n rc) n xs)(pE:∀u∈xs,u.oneCell'=true)(hn:n≤1000000):
 Calls Tryz.prog 197 #[.slice (some ⟨g,0,none⟩) n rc,.int .i64 i,.int .i64 j] w fun e w'=>e=.returned (.slice (some ⟨g,0,none⟩) (i+(n-j)) rc)∧
  w'.ownsRow 0 119 3 (.slice (some ⟨g,0,none⟩) (i+(n-j)) rc) (i+(n-j)) (xs.take (i*3)++xs.drop (j*3))∧Kb [g] w w':=by
 have qb:xs.length=n*3:=aj.1
 obtain⟨cur,Cw,hrc,Fe,Ih,sO⟩:∃cur:Array Value,w.heap[g]?=some (.cells cur 119 (0,0))∧n≤rc∧rc≤maxLen∧cur.size=rc*3∧cur.toList.take (n*3)=xs:=by
  rcases aj.2 with⟨e,_⟩ | ⟨g',cap,cur,e,_,q1,q5,q4,q2,q3⟩
  · simp at e
  · simp only[Value.slice.injEq,Option.some.injEq,Addr.mk.injEq,and_true,true_and]at e
    obtain⟨rfl,rfl⟩:=e
    exact⟨cur,q1,q5,q4,q2,q3⟩
 obtain⟨i0,hi,eX,eP,eA⟩:=info_parts Tryz.sk
 obtain⟨news,ew⟩:∃news,news=xs.drop (j*3):=⟨_,rfl⟩
 have KE:news.length=(n-j)*3:=by rw[ew,List.length_drop];omega
 obtain⟨W1,rq⟩:∃W1,W1=w.drew.setCells g (0+i*3) news:=⟨_,rfl⟩
 obtain⟨A,hA,VN⟩:∃A:Addr,(if rc=j then some (⟨g,0,none⟩:Addr)else some ⟨g,j*3,none⟩)=some A∧Hid (∀t u,news[t]?=some u→w.drew.cell? (A.add t)=some u):=by
  by_cases h:rc=j
  · refine⟨⟨g,0,none⟩,by simp[h],fun t u hu=> ?_⟩
    have h0:news.length=0:=by rw[KE];omega
    rw[List.length_eq_zero_iff.1 h0]at hu
    simp at hu
  · refine⟨⟨g,j*3,none⟩,by simp[h],fun t u hu=> ?_⟩
    have aC:=(List.getElem?_eq_some_iff.1 hu).1
    rw[ew,←sO,List.getElem?_drop,List.getElem?_take]at hu
    split at hu
    · rw[Addr.add_lit]
      show w.cell? ⟨g,j*3+t,none⟩=some u
      rw[cell_of_row _ _ _ _ _ _ Cw]
      simpa using hu
    · simp at hu
 have s1:Hid (news.length=(n-j)*3):=KE
 have s2:Hid (∀u∈news,u.oneCell'=true):=fun u hu=>pE u (by rw[ew]at hu;exact List.mem_of_mem_drop hu)
 have s3:Hid (∀t,t<news.length→(w.drew.cell? ⟨g,0+i*3+t,none⟩).isSome=true∧w.drew.frozen? ⟨g,0+i*3+t,none⟩=false):=by
  intro t ht
  refine⟨?_, ?_⟩
  · show(w.cell? ⟨g,0+i*3+t,none⟩).isSome=true
    rw[cell_of_row _ _ _ _ _ _ Cw,Array.getElem?_eq_getElem (by omega)]
    rfl
  · show w.frozen? ⟨g,0+i*3+t,none⟩=false
    simp[World.frozen?,Cw]
 have HI:Hid (Tryz.prog.info? 119=some i0):=hi
 have HZ:Hid (i0.size=3):=eP
 have hW:Hid (W1=w.drew.setCells g (0+i*3) news):=rq
 obtain⟨q1,q2⟩:=bO g news (0+i*3) cur w.drew Cw (by omega)
 rw[←rq]at q1 q2
 obtain⟨cu2,RL⟩:∃c:Array Value,c=(cur.toList.take (0+i*3)++news++cur.toList.drop (0+i*3+news.length)).toArray:=⟨_,rfl⟩
 rw[←RL]at q1
 have uw:cu2.size=rc*3:=by rw[RL];simp;omega
 have hzz:(Builtin.zeroCells (Value.agg #[.string ByteArray.empty,.string ByteArray.empty,.string ByteArray.empty]).cells (n-(i+(n-j)))).toList=e3:=by
  rw[show n-(i+(n-j))=1 by omega]
  exact Lv
 obtain⟨W2,ub⟩:∃W2,W2=W1.setRow g (cu2.toList.take ((i+(n-j))*3)++e3++cu2.toList.drop ((i+(n-j))*3+e3.length)).toArray:=⟨_,rfl⟩
 have aaW:∀ty,(Builtin.clear_ #[113] ty #[.slice (some ⟨g,(i+(n-j))*3,none⟩) (n-(i+(n-j))) (rc-(i+(n-j)))]).run Tryz.prog W1=.ok (.tuple #[]) W2:=fun ty=>by
  rw[ub]
  exact pe Tryz.prog W1 113 ty 119 _ g ((i+(n-j))*3) (n-(i+(n-j))) (rc-(i+(n-j))) cu2 119 _ Tryz.underlying113 Tryz.zeroValue119 hzz q1 (by simp[e3];omega) (by intro v hv;simp[e3]at hv;rw[hv];rfl) (by omega)
 have km:Hid (W2.ownsRow 0 119 3 (.slice (some ⟨g,0,none⟩) (i+(n-j)) rc) (i+(n-j)) (xs.take (i*3)++news)∧Kb [g] w W2):=by
  rw[ub]
  refine⟨⟨by simp[KE,qb];omega,.inr ⟨g,rc,_,rfl,Nat.zero_le _,bq W1 g _ q1,by omega,Fe,by simp[uw,e3];omega, ?_⟩⟩,((Kb.refl [g] w).drew.trans q2).trans (Kb.setRow W1 g _)⟩
  simp only[List.toList_toArray,List.append_assoc]
  rw[List.take_append_of_le_length (by simp[uw];omega),List.take_take,Nat.min_self,RL]
  simp only[List.toList_toArray,List.append_assoc]
  rw[←sO,←List.append_assoc,List.take_append_of_le_length (by simp[KE,Ih];omega),List.take_of_length_le (by simp[KE,Ih];omega),List.take_take,Nat.zero_add]
  congr 2
  omega
 rw[←ew]
 have hWg:g<W1.heap.size:=lt_of_heap q1
 have YH:i<j:=by omega
 have cL:((i:Int)==(j:Int))=false:=beq_eq_false_iff_ne.2 (by omega)
 have HJ:Hid (j=i+1):=hj
 have hic:i≤rc:=by omega
 have hjc:j≤rc:=by omega
 clear aj q1 q2 RL uw rq ub hzz ew KE sO Ih hi eX eP eA qb pE Cw hj
 go_enter Tryz.func197,Tryz.ntmps197
 go_wp2_with fail
 go_region_law (refine step_append_room rfl (.tmp 22) (.tmp 25) 113 rfl 119 i0 3 Tryz.underlying113 HI.out HZ.out g 0 i rc (by simp[Act.eval,Act.put]) A (n-j) (rc-j) news (by simp[Act.eval,Act.put]) s1.out VN.out s2.out (by omega) s3.out ?_;rw[←hW.out])
 go_wp2_with fail
 go_ret
 exact⟨rfl,km.out⟩
end
/- facts.Given.Leave. -/
section
open Go.RowKit
open Go.Sort (grow)
theorem Ke{L:List (List ByteArray)}{r:List ByteArray}(h:Tb.lO L r=true)(ho:Tb.Ord L):Tb.pos L r<L.length∧(Tb.leave L r).length=Tb.pos L r+(L.length-(Tb.pos L r+1))∧Tb.leave L r=L.take (Tb.pos L r)++L.drop (Tb.pos L r+1):=by
 have aC:Tb.pos L r<L.length:=(List.getElem?_eq_some_iff.1 ((Tb.fQ ho _).2 (Tb.dM.1 h))).1
 have e:Tb.leave L r=L.take (Tb.pos L r)++L.drop (Tb.pos L r+1):=by unfold Tb.leave;rw[h];rfl
 refine⟨aC, ?_,e⟩
 rw[e]
 simp
 omega
theorem K7(w:World)(g:Nat)(nm:ByteArray)(pl:Nat)(rd:Option Addr)(rc:Nat)(L:List (List ByteArray))(a b c:ByteArray)(h:cl w g 125 nm pl rd rc L [])(hL:L.length≤999999):
 Calls Tryz.prog 128 #[.pointer (some ⟨g,0,none⟩),.agg #[.string a,.string b,.string c]] w fun e w'=>
  e=.returned (.tuple #[])∧cl w' g 125 nm pl rd rc (Tb.leave L [a,b,c]) []∧Kb (g::(Value.ownBlock (.slice rd L.length rc)).toList) w w':=by
 obtain⟨w0,di⟩:∃w0,w0=w.alloc (.cells #[.string a,.string b,.string c] 119):=⟨_,rfl⟩
 have bK:Below w.heap.size w w0:=by rw[di];exact(Below.refl _ _).alloc (Nat.le_refl _) _
 have lY:w0.heap[w.heap.size]?=some (.cells #[.string a,.string b,.string c] 119 (0,0)):=by rw[di];exact heap_alloc_new w _
 have t0:w0.cell? ⟨w.heap.size,0,none⟩=some (.string a):=by rw[cell_of_row _ _ 0 _ _ _ lY];rfl
 have t1:w0.cell? ⟨w.heap.size,1,none⟩=some (.string b):=by rw[cell_of_row _ _ 1 _ _ _ lY];rfl
 have t2:w0.cell? ⟨w.heap.size,2,none⟩=some (.string c):=by rw[cell_of_row _ _ 2 _ _ _ lY];rfl
 have h0:=h.below bK
 have ur:Hid (∀W,Below w0.heap.size w0 W→Calls Tryz.prog 75 #[.pointer (some ⟨g,0,none⟩),.agg #[.string a,.string b,.string c]] W fun e w'=>e=.returned (.tuple #[.int .i64 (Tb.pos L [a,b,c]:Nat),.bool (Tb.lO L [a,b,c])])∧Hid (Below w.heap.size w w')∧w'.cell? ⟨g,2,none⟩=some (.slice rd L.length rc)∧g<w'.heap.size):=by
  intro W hW
  have h1:=h0.below hW
  refine(si W g rd rc L a b c h1.rows (by omega) h1.ord h1.lB.1).mono ?_
  rintro e w' ⟨rfl,hb⟩
  have sK:Below w.heap.size w W:=bK.trans (hW.mono bK.size)
  have lW:Below w.heap.size w w':=sK.trans (hb.mono sK.size)
  exact⟨rfl,lW,(h.below lW).lB.1,lt_of_heap (h.below lW).da⟩
 have mh:=lt_of_heap h.da
 have HT:Hid (cl w g 125 nm pl rd rc L []):=h
 cases dQ:Tb.lO L [a,b,c]with
 | false=>
  rw[dQ]at ur
  have Wn:Tb.leave L [a,b,c]=L:=by unfold Tb.leave;rw[dQ];rfl
  rw[Wn]
  generalize Tb.pos L [a,b,c]=ps at ur
  clear h h0 lY dQ Wn
  go_enter Tryz.func128,Tryz.ntmps128
  go_wp2_with fail
  rw[←di]
  clear di
  go_region_with (go_at_call 75;refine(ur.out _ (by exact(Below.refl _ _).drew)).mono ?_;rintro e w1 ⟨rfl,HE,NP,fA⟩)
  all_goals
   go_wp2_with fail
   go_end0
   exact⟨rfl,HT.out.below HE.out,Kb.bG HE.out _⟩
 | true=>
  rw[dQ]at ur
  obtain⟨aC,wu,hle⟩:=Ke dQ h.ord
  obtain⟨gr,rfl⟩:∃gr,rd=some ⟨gr,0,none⟩:=by
   obtain⟨gr,_,_,_,e,_⟩:=h.rows.at aC
   exact⟨gr,e⟩
  have PU:Hid (∀W,Below w.heap.size w W→Calls Tryz.prog 197 #[.slice (some ⟨gr,0,none⟩) L.length rc,.int .i64 (Tb.pos L [a,b,c]:Nat),.int .i64 ((Tb.pos L [a,b,c]:Nat)+1)] W fun e w3=>e=.returned (.slice (some ⟨gr,0,none⟩) (Tb.leave L [a,b,c]).length rc)∧
   Hid (cl (w3.setCell ⟨g,2,none⟩ (.slice (some ⟨gr,0,none⟩) (Tb.leave L [a,b,c]).length rc)) g 125 nm pl (some ⟨gr,0,none⟩) rc (Tb.leave L [a,b,c]) []∧Kb (g::(Value.ownBlock (.slice (some ⟨gr,0,none⟩) L.length rc)).toList) w (w3.setCell ⟨g,2,none⟩ (.slice (some ⟨gr,0,none⟩) (Tb.leave L [a,b,c]).length rc)))∧w3.cell? ⟨g,2,none⟩=some (.slice (some ⟨gr,0,none⟩) L.length rc)∧w3.frozen? ⟨g,2,none⟩=false∧g<w3.heap.size):=by
   intro W hW
   have h1:=h.below hW
   refine(zM W gr rc (Tb.pos L [a,b,c]) (Tb.pos L [a,b,c]+1) L.length (aF L) rfl aC h1.rows.own (nA L) (by omega)).mono ?_
   rintro e w3 ⟨rfl,q1,q2⟩
   have Ff:g≠gr:=by
    have:=h.apart
    simpa [Value.ownBlock]using this
   have eB:w3.heap[g]?=_:=q2.heap h1.da (by simpa using Ff)
   rw[←wu]at q1 ⊢
   have hk:Kb (g::(Value.ownBlock (.slice (some ⟨gr,0,none⟩) L.length rc)).toList) w w3:=(Kb.bG hW _).trans (q2.mono (fun x hx _=>by simp at hx;simp[Value.ownBlock,hx]))
   refine⟨rfl,⟨⟨?_,⟨?_, ?_⟩,Tb.Kr h.ord _,h.type⟩,hk.trans ((Kb.setCell w3 ⟨g,2,none⟩ _).mono (fun x hx _=>by simp at hx;simp[hx]))⟩, ?_, ?_,lt_of_heap eB⟩
   · rw[an _ eB]
     simp[Array.setIfInBounds]
   · intro r hr
     rw[hle]at hr
     rcases List.mem_append.1 hr with hr | hr
     · exact h.rows.three r (List.mem_of_mem_take hr)
     · exact h.rows.three r (List.mem_of_mem_drop hr)
   · have e1:aF (Tb.leave L [a,b,c])=(aF L).take (Tb.pos L [a,b,c]*3)++(aF L).drop ((Tb.pos L [a,b,c]+1)*3):=by
      rw[hle,sr,lT _ h.rows.three,jk _ h.rows.three]
     rw[e1]
     exact(Kb.setCell w3 ⟨g,2,none⟩ _).row q1 (fun x hx=>by simp[Value.ownBlock]at hx;simp;omega)
   · rw[cell_of_row _ _ 2 _ _ _ eB];simp
   · simp[World.frozen?,eB]
  generalize Tb.leave L [a,b,c]=L' at PU ⊢
  have lu:Tb.pos L [a,b,c]<1000000:=by omega
  generalize Tb.pos L [a,b,c]=ps at ur PU lu
  clear h h0 lY dQ hle wu aC
  go_enter Tryz.func128,Tryz.ntmps128
  go_wp2_with fail
  rw[←di]
  clear di
  go_region_with (go_at_call 75;refine(ur.out _ (by exact(Below.refl _ _).drew)).mono ?_;rintro e w1 ⟨rfl,HE,NP,fA⟩)
  all_goals
   go_wp2_with (go_at_call 197;refine(PU.out _ HE.out).mono ?_;rintro e w3 ⟨rfl,HF,uP,hf3,nB⟩)
   go_end0
   exact⟨rfl,HF.out.1,HF.out.2⟩
end
/- facts.Total at what was given. -/
section
open Go.RowKit Go.Maps
def jS(left:Lit→Bool)(G:List GT):List GT:=G.filter fun t=>left (aY t.nm)
def fh(G:List GT):Nat:=(G.map fun t=>t.L.length).sum
theorem xA{left:Lit→Bool}{G:List GT}(h:∀kl,left kl=false):jS left G=[]:=by simp[jS,h]
theorem Li{G:List GT}(hn:(G.map GT.nm).Nodup){left:Lit→Bool}{t:GT}(ht:t∈G)(hl:left (aY t.nm)=true):
 fh (jS left G)=fh (jS (fun z=>left z&& !z.sameKey (aY t.nm)) G)+t.L.length:=by
 induction G with
 | nil=>simp at ht
 | cons a G ih=>
  simp only[List.map_cons,List.nodup_cons]at hn
  unfold jS fh at ih ⊢
  rcases List.mem_cons.1 ht with rfl | ht
  · have e1:G.filter (fun z=>left (aY z.nm)&& !(aY z.nm).sameKey (aY t.nm))=G.filter (fun z=>left (aY z.nm)):=by
     refine List.filter_congr fun z hz=> ?_
     have:(aY z.nm).sameKey (aY t.nm)=false:=sameKey_ne (fun e=>hn.1 (by rw[←ku e];exact List.mem_map_of_mem hz))
     simp[this]
    have e2:(aY t.nm).sameKey (aY t.nm)=true:=by simp[Lit.sameKey,aY]
    simp only[List.filter_cons,hl,e2,e1]
    simp
    omega
  · have h1:=ih hn.2 ht
    have:(aY a.nm).sameKey (aY t.nm)=false:=sameKey_ne (fun e=>hn.1 (by rw[ku e];exact List.mem_map_of_mem ht))
    simp only[List.filter_cons,this]
    cases left (aY a.nm)<;>simp at h1 ⊢ <;>omega
theorem ES:∀{G:List GT} {x:ByteArray} {g:Nat},Ax.look (G.map GT.key) x=some g→∃t,t∈G∧t.nm=x∧t.g=g
 | [],x,g,h=>by simp[Ax.look]at h
 | a::G,x,g,h=>by
  rw[List.map_cons]at h
  have e:Ax.look (a.key::G.map GT.key) x=if a.nm=x then some a.g else Ax.look (G.map GT.key) x:=eD ..
  rw[e]at h
  split at h
  · rename_i e
    exact⟨a,by simp,e,Option.some.inj h⟩
  · obtain⟨t,ht,h1⟩:=ES h
    exact⟨t,by simp[ht],h1⟩
theorem uE(v:Value)(y:DataW Unit×List MemPlace)(h:cS v=some y):∃c,v=.pointer c:=by
 unfold cS at h
 split at h
 · exact⟨_,rfl⟩
 · exact⟨_,rfl⟩
 · cases h
theorem uN{G:List GT}{D:DataW Unit}(hD:F0 D (G.map GT.key)){left:Lit→Bool}(hl:∀kl,left kl=true→has D kl=true){x:ByteArray}{c:Option Addr}{kl:Lit}{y:DataW Unit×List MemPlace}
 (hk:keyOf Tryz.prog 9 (.string x)=some kl)(VO:left kl=true)(hR:cS (.pointer c)=some y)(sJ:∀zd,D.atKey kl zd=y.1):kl=aY x∧∃t,t∈G∧t.nm=x∧c=some ⟨t.g,0,none⟩:=by
 have e:kl=aY x:=by
  simp[keyOf,Tryz.underlying9,mapKey]at hk
  exact hk.2.symm
 subst e
 have h1:=hl _ VO
 rw[(hD x).1]at h1
 obtain⟨g,hg⟩:=Option.isSome_iff_exists.1 h1
 obtain⟨t,ht,h2,h3⟩:=ES hg
 have h4:=(hD x).2 g hg
 rw[sJ]at h4
 obtain⟨y1,y2⟩:=y
 simp only at h4
 subst h4
 have:=oz hR
 refine⟨rfl,t,ht,h2, ?_⟩
 rw[h3]
 simpa using this
theorem Ko(g n:Nat)(w:World):(method (n+1) 122 (.pointer (some ⟨g,0,none⟩)) "Len").run Tryz.prog w=.ok (136,.pointer (some ⟨g,0,none⟩)) w:=by
 kernel_rfl
theorem Ae(w:World)(mb:Nat)(G:List GT)(h:jY w mb G)(hs:fh G≤1000000):
 Calls Tryz.prog 110 #[.map (some mb)] w fun e w'=>e=.returned (.int .i64 (fh G:Nat))∧Below w.heap.size w w':=by
 obtain⟨n,D,aj,hn,hD⟩:=h.map.has
 have fE:=aj.lt
 have HG:Hid (jY w mb G):=h
 have HD:Hid (F0 D (G.map GT.key)):=hD
 clear h hD
 go_enter Tryz.func110,Tryz.ntmps110
 go_wp2_with (first
  | (at_range;refine wpList_range_own _ rfl _ 102 rfl 9 122 Tryz.gD Tryz.underlying102 _ mb n _ rfl aj ?_;intro w0 Rz nD JA)
  | go_in)
 go_frame
 go_loopw [3,8] (fun v _ wr=>∃(left:Lit→Bool) (jG k:Nat),wr.ranges Tryz.prog 9 cS mb w.heap.size n D left jG∧(∀kl,left kl=true→has D kl=true)∧v=.int .i64 k∧k+fh (jS left G)=fh G∧Below w.heap.size w wr)
  (fun _ _ wr=>wr.rangeLeft mb w.heap.size)
 case atStart=>
  refine⟨_,_,0,Rz,fun _ h=>h,rfl, ?_,(Below.refl _ w).grown nD (Nat.le_refl _) (fun j hj=>by cases hj)⟩
  have e:jS (has D) G=G:=by
   refine List.filter_eq_self.2 fun t ht=> ?_
   rw[(HD.out t.nm).1,iT HG.out.names ht]
   rfl
  rw[e,Nat.zero_add]
 case round=>
  obtain⟨left,jG,k,WY,Wq,rfl,VY,hb⟩:=hrel
  go_wp2_with (first
   | (at_next;refine wpList_next_ranges _ rfl _ rfl 9 Tryz.gD cS Value.string Value.pointer (fun key kl mF=>Maps.keyOf_string_inv Tryz.underlying9 mF) uE mb w.heap.size n _ _ _ rfl WY ?_ ?_)
   | go_in)
  · intro NJ Qq
    rw[xA Qq]at VY
    have hk:k=fh G:=VY
    subst hk
    go_wp2
    go_ret
    exact⟨rfl,hb⟩
  · intro x c kl y ps w1 KZ QD VO hRc sJ Js aC fA kW hen
    obtain⟨rfl,t,ht,rfl,rfl⟩:=uN HD.out Wq QD VO hRc sJ
    have eo:=Li HG.out.names ht VO
    have bk:Below w.heap.size w w1:=hb.grown fA hb.size (fun j hj=>by cases hj;exact Nat.le_refl _)
    have hT:cl w1 t.g 125 t.nm t.pl t.rd t.rc t.L []:=(HG.out.bX t ht).below bk
    have XR:=I1 w1 t.g _ _ _ _ _ _ _ hT
    have sN:=lt_of_heap hT.da
    have hm:=Ko t.g
    have ML:Hid (k+t.L.length+fh (jS (fun z=>left z&& !z.sameKey (aY t.nm)) G)=fh G):=by
     show k+t.L.length+fh (jS (fun z=>left z&& !z.sameKey (aY t.nm)) G)=fh G
     omega
    have KL:k+t.L.length≤1000000:=by have:=ML.out;omega
    generalize t.L.length=tl at XR KL ML
    clear eo VY hT
    go_wp2_with (go_at_call 136;refine XR.mono ?_;rintro e w2 ⟨rfl,rfl⟩)
    go_roundw
    case rel=>exact⟨_,KZ,k+tl,Js,fun kl h=>Wq kl (by simp at h;exact h.1),by go_num,ML.out,bk⟩
    case measure=>rw[Js.left_eq,WY.left_eq];exact aC
end
end Go.Proofs.YtdmicblafmhflaaGreatDoor
