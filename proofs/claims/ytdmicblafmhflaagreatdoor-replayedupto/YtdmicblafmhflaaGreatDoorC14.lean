/- slices.Compare at strings; compareRows. -/
import Derived.Test.YtdmicblafmhflaaGreatDoorC13
import Derived.Test.YtdmicblafmhflaaGreatDoorC07
import Derived.Deep.RegionWith
import Derived.Deep.CutRange
import Derived.Deep.LoopGhost
import Derived.Lib.QuietBelow
set_option linter.unusedSimpArgs false
set_option linter.unusedVariables false
set_option maxHeartbeats 2000000
set_option maxRecDepth 100000
namespace Go.Proofs.YtdmicblafmhflaaGreatDoor
section
open Go.RowKit
theorem Cn(w:World)(p q:List ByteArray)(g h c d:Nat)(hl:q.length=p.length)(hc:p.length≤c)(hd:q.length≤d)(ze:p.length≤1000)
 (hp:∀(j:Nat) v,p[j]?=some v→w.cell? ⟨g,j,none⟩=some (.string v))(hq:∀(j:Nat) v,q[j]?=some v→w.cell? ⟨h,j,none⟩=some (.string v)):
 Calls Tryz.prog 199 #[.slice (some ⟨g,0,none⟩) p.length c,.slice (some ⟨h,0,none⟩) q.length d] w fun e w'=>e=.returned (.int .i64 (Tb.c8 p q))∧w'=w:=by
 generalize hR:Tb.c8 p q=R
 have HP:Hid (∀(j:Nat) v,p[j]?=some v→w.cell? ⟨g,j,none⟩=some (.string v)):=hp
 have HQ:Hid (∀(j:Nat) v,q[j]?=some v→w.cell? ⟨h,j,none⟩=some (.string v)):=hq
 clear hp hq
 generalize hm:q.length=m at hl hd
 have HM:Hid (q.length=m):=hm
 clear hm
 have hmn:m≤p.length:=by omega
 have ga:p.length≤m:=by omega
 clear hl
 go_enter Tryz.func199,Tryz.ntmps199
 go_wp2_with fail
 go_loop [11] (fun i=>∃k:Nat,k≤p.length∧i=.int .i64 k∧Tb.c8 (p.drop k) (q.drop k)=R) (fun i=>p.length-(intOf i).toNat)
 case atStart=>exact⟨0,Nat.zero_le _,rfl,by simpa using hR⟩
 case round=>
  obtain⟨k,hk,rfl,hr⟩:=hrel
  by_cases aE:k<p.length
  · have mL:k<q.length:=by rw[HM.out];omega
    have hx:=HP.out k _ (List.getElem?_eq_getElem aE)
    have hy:=HQ.out k _ (List.getElem?_eq_getElem mL)
    rw[List.drop_eq_getElem_cons aE,List.drop_eq_getElem_cons mL]at hr
    generalize p[k]=x at hx hr
    generalize q[k]=y at hy hr
    unfold Tb.c8 at hr
    have hkm:k<m:=by omega
    clear hR mL
    by_cases hz:Tb.ia x y=0
    · rw[if_neg (by simpa using hz)]at hr
      have uf:Hid (Tb.c8 (p.drop (k+1)) (q.drop (k+1))=R):=hr
      clear hr
      go_wp2_with (go_at_call 247;refine(oF _ _ _).mono ?_;rintro e w' ⟨rfl,rfl⟩)
      go_round
      case rel=>exact⟨k+1,by omega,by go_num,uf.out⟩
      case measure=>simp[intOf];omega
    · rw[if_pos hz]at hr
      have uf:Hid (Tb.ia x y=R):=hr
      have hb:(Tb.ia x y==0)=false:=by simp[hz]
      have wy:(Tb.ia x y != 0)=true:=by simp[hz]
      clear hr hz
      go_wp2_with (go_at_call 247;refine(oF _ _ _).mono ?_;rintro e w' ⟨rfl,rfl⟩)
      go_ret
      exact⟨by rw[uf.out];rfl,rfl⟩
  · have hkp:k=p.length:=by omega
    have e1:p.drop k=[]:=List.drop_eq_nil_of_le (by omega)
    have e2:q.drop k=[]:=List.drop_eq_nil_of_le (by rw[HM.out];omega)
    rw[e1,e2]at hr
    have uf:Hid (0=R):=hr
    clear hr hR hkp e1 e2
    go_wp2_with fail
    go_ret
    exact⟨by rw[←uf.out];rfl,rfl⟩
theorem A9{a b c:ByteArray}{w:World}{g:Nat}(h0:w.cell? ⟨g,0,none⟩=some (.string a))(h1:w.cell? ⟨g,1,none⟩=some (.string b))(h2:w.cell? ⟨g,2,none⟩=some (.string c)):∀(j:Nat) v,[a,b,c][j]?=some v→w.cell? ⟨g,j,none⟩=some (.string v):=by
 intro j v hj
 match j with
 | 0=>simp at hj;rw[←hj];exact h0
 | 1=>simp at hj;rw[←hj];exact h1
 | 2=>simp at hj;rw[←hj];exact h2
 | j+3=>simp at hj
theorem vj(w:World)(a b c x y z:ByteArray):Calls Tryz.prog 132 #[.agg #[.string a,.string b,.string c],.agg #[.string x,.string y,.string z]] w fun e w'=>e=.returned (.int .i64 (Tb.c8 [a,b,c] [x,y,z]))∧Below w.heap.size w w':=by
 have qC:∀W:World,W.heap=((w.alloc (.cells #[.string a,.string b,.string c] 119)).alloc (.cells #[.string x,.string y,.string z] 119)).heap→
  Calls Tryz.prog 199 #[.slice (some ⟨w.heap.size,0,none⟩) 3 3,.slice (some ⟨w.heap.size+1,0,none⟩) 3 3] W fun e w'=>e=.returned (.int .i64 (Tb.c8 [a,b,c] [x,y,z]))∧w'=W:=fun W hW=>by
  have h1:W.heap[w.heap.size]?=some (.cells #[.string a,.string b,.string c] 119 (0,0)):=by
   rw[hW,Below.heap_alloc _ _ _ (by simp)]
   exact heap_alloc_new w _
  have h2:W.heap[w.heap.size+1]?=some (.cells #[.string x,.string y,.string z] 119 (0,0)):=by
   rw[hW]
   exact qv w _ _
  exact Cn W [a,b,c] [x,y,z] _ _ 3 3 rfl (by simp) (by simp) (by simp)
   (A9 (by rw[cell_of_row _ _ 0 _ _ _ h1];rfl) (by rw[cell_of_row _ _ 1 _ _ _ h1];rfl) (by rw[cell_of_row _ _ 2 _ _ _ h1];rfl))
   (A9 (by rw[cell_of_row _ _ 0 _ _ _ h2];rfl) (by rw[cell_of_row _ _ 1 _ _ _ h2];rfl) (by rw[cell_of_row _ _ 2 _ _ _ h2];rfl))
 generalize Tb.c8 [a,b,c] [x,y,z]=R at qC ⊢
 go_enter Tryz.func132,Tryz.ntmps132
 go_wp2_with fail
 go_region_with (go_at_call 199;refine(qC _ (by rfl)).mono ?_;rintro e w1 ⟨rfl,rfl⟩)
 all_goals (go_wp2_with fail)
 exact bodyPost_ret (v:=.int .i64 R) (by simp[results,Tryz.results132,go_sem]) rfl ⟨rfl,(((Below.refl _ _).alloc (Nat.le_refl _) _).alloc (by simp) _).drew⟩
end
/- slices.BinarySearchFunc at rows; find. -/
section
open Go.RowKit
open Go.Sort (grow)
def aM(L:List (List ByteArray)):List Value:=L.flatMap fun r=>r.map .string
def p7(L:List (List ByteArray)):Prop:=∀r,r∈L→r.length=3
theorem qO:∀{L:List (List ByteArray)},p7 L→(aM L).length=L.length*3
 | [],_=>rfl
 | r::L,h=>by
  have h1:=qO (L:=L) (fun x hx=>h x (by simp[hx]))
  have h2:=h r (by simp)
  unfold aM at h1 ⊢
  simp only[List.flatMap_cons,List.length_append,List.length_map,List.length_cons,h1,h2]
  omega
theorem lU:∀{L:List (List ByteArray)} (k:Nat),p7 L→(aM L).take (k*3)=aM (L.take k)
 | [],k,_=>by simp[aM]
 | r::L,0,_=>by simp[aM]
 | r::L,k+1,h=>by
  have h1:=lU (L:=L) k (fun x hx=>h x (by simp[hx]))
  have h2:=h r (by simp)
  unfold aM at h1 ⊢
  rw[List.flatMap_cons,List.take_succ_cons,List.flatMap_cons,←h1,List.take_append,List.length_map,h2]
  rw[List.take_of_length_le (by rw[List.length_map,h2];omega)]
  congr 2
  omega
theorem je:∀{L:List (List ByteArray)} (k:Nat),p7 L→(aM L).drop (k*3)=aM (L.drop k)
 | [],k,_=>by simp[aM]
 | r::L,0,_=>by simp[aM]
 | r::L,k+1,h=>by
  have h1:=je (L:=L) k (fun x hx=>h x (by simp[hx]))
  have h2:=h r (by simp)
  unfold aM at h1 ⊢
  rw[List.flatMap_cons,List.drop_succ_cons,←h1,List.drop_append,List.length_map,h2]
  rw[List.drop_of_length_le (by rw[List.length_map,h2];omega),List.nil_append]
  congr 1
  omega
theorem qR(a b:List (List ByteArray)):aM (a++b)=aM a++aM b:=by simp[aM]
theorem nB(L:List (List ByteArray)):∀u∈aM L,u.oneCell'=true:=by
 intro u hu
 obtain⟨r,_,hu⟩:=List.mem_flatMap.1 hu
 obtain⟨x,_,rfl⟩:=List.mem_map.1 hu
 rfl
theorem wW{r:List ByteArray}(h:r.length=3):∃a b c,r=[a,b,c]:=by
 match r with
 | [a,b,c]=>exact⟨a,b,c,rfl⟩
 | []=>simp at h
 | [_]=>simp at h
 | [_,_]=>simp at h
 | _::_::_::_::_=>simp at h
theorem jU{L:List (List ByteArray)}(h:p7 L){k:Nat}(hk:k<L.length){a b c:ByteArray}(e:L[k]=[a,b,c]):
 (aM L)[k*3]?=some (.string a)∧(aM L)[k*3+1]?=some (.string b)∧(aM L)[k*3+2]?=some (.string c):=by
 have h1:=je k h
 rw[List.drop_eq_getElem_cons hk,e]at h1
 have g:∀j,(aM L)[k*3+j]?=(aM ([a,b,c]::L.drop (k+1)))[j]?:=by
  intro j
  rw[←h1,List.getElem?_drop]
 have g0:=g 0
 rw[Nat.add_zero]at g0
 rw[g0,g 1,g 2]
 simp[aM]
structure kj(w:World)(rd:Option Addr)(rc:Nat)(L:List (List ByteArray)):Prop where
 three:p7 L
 own:w.ownsRow 0 119 3 (.slice rd L.length rc) L.length (aM L)
theorem kj.below{w w':World}{rd:Option Addr}{rc:Nat}{L:List (List ByteArray)}(h:kj w rd rc L)(hb:Below w.heap.size w w'):kj w' rd rc L:=⟨h.three,ae h.own hb⟩
theorem kj.at{w:World}{rd:Option Addr}{rc:Nat}{L:List (List ByteArray)}(h:kj w rd rc L){k:Nat}(hk:k<L.length):
 ∃g a b c,rd=some ⟨g,0,none⟩∧g<w.heap.size∧L.length≤rc∧L[k]=[a,b,c]∧w.cell? ⟨g,k*3,none⟩=some (.string a)∧w.cell? ⟨g,k*3+1,none⟩=some (.string b)∧w.cell? ⟨g,k*3+2,none⟩=some (.string c):=by
 obtain⟨g,rfl,hg,hc,bH⟩:=aD h.own (by omega)
 obtain⟨a,b,c,e⟩:=wW (h.three _ (List.getElem_mem hk))
 obtain⟨c0,c1,c2⟩:=jU h.three hk e
 exact⟨g,a,b,c,rfl,hg,hc,e,bH _ _ c0,bH _ _ c1,bH _ _ c2⟩
theorem UE{L:List (List ByteArray)}{r:List ByteArray}{i:Nat}(hi:i≤L.length)(h1:∀k (hk:k<L.length),k<i→Tb.c8 L[k] r<0)(h2:∀k (hk:k<L.length),i≤k→¬Tb.c8 L[k] r<0):Tb.pos L r=i:=by
 unfold Tb.pos
 have e:L=L.take i++L.drop i:=(List.take_append_drop i L).symm
 rw[e,List.countP_append]
 have a1:(L.take i).countP (fun x=>decide (Tb.c8 x r<0))=i:=by
  rw[List.countP_eq_length.2,List.length_take,Nat.min_eq_left hi]
  intro x hx
  obtain⟨k,hk,rfl⟩:=List.getElem_of_mem hx
  rw[List.length_take]at hk
  rw[List.getElem_take]
  simpa using h1 k (by omega) (by omega)
 have a2:(L.drop i).countP (fun x=>decide (Tb.c8 x r<0))=0:=by
  rw[List.countP_eq_zero]
  intro x hx
  obtain⟨k,hk,rfl⟩:=List.getElem_of_mem hx
  rw[List.length_drop]at hk
  rw[List.getElem_drop]
  simpa using h2 (i+k) (by omega) (by omega)
 rw[a1,a2,Nat.add_zero]
theorem Ep(w:World)(rd:Option Addr)(rc:Nat)(L:List (List ByteArray))(a b c:ByteArray)(h:kj w rd rc L)(hL:L.length≤1000000)(ho:Tb.Ord L):
 Calls Tryz.prog 131 #[.slice rd L.length rc,.agg #[.string a,.string b,.string c],.func (Fn.func 132) #[] #[]] w fun e w'=>
  e=.returned (.tuple #[.int .i64 (Tb.pos L [a,b,c]:Nat),.bool (Tb.mg L [a,b,c])])∧Below w.heap.size w w':=by
 obtain⟨w0,cZ⟩:∃w0,w0=w.alloc (.cells #[.string a,.string b,.string c] 119):=⟨_,rfl⟩
 have bL:Below w.heap.size w w0:=by rw[cZ];exact(Below.refl _ _).alloc (Nat.le_refl _) _
 have lX:w0.heap[w.heap.size]?=some (.cells #[.string a,.string b,.string c] 119 (0,0)):=by rw[cZ];exact heap_alloc_new w _
 have E4:w0.heap.size=w.heap.size+1:=by rw[cZ];simp
 have h0:kj w0 rd rc L:=h.below bL
 have qC:=fun (W:World) (x y z:ByteArray)=>vj W x y z a b c
 generalize hr:[a,b,c]=r at qC
 have HR:Hid ([a,b,c]=r):=hr
 have HO:Hid (Tb.Ord L):=ho
 clear hr ho h
 go_enter Tryz.func131,Tryz.ntmps131
 go_wp2_with fail
 rw[←cZ]
 clear cZ
 go_loopw [9,10] (fun iv jv wr=>∃i j:Nat,i≤j∧j≤L.length∧iv=.int .i64 i∧jv=.int .i64 j∧Below w0.heap.size w0 wr∧(∀k (hk:k<L.length),k<i→Tb.c8 L[k] r<0)∧(∀k (hk:k<L.length),j≤k→¬Tb.c8 L[k] r<0)) (fun iv jv _=>(intOf jv).toNat-(intOf iv).toNat)
 case atStart=>exact⟨0,L.length,Nat.zero_le _,Nat.le_refl _,rfl,rfl,Below.refl _ _,fun k _ hk=>by omega,fun k hk BI=>by omega⟩
 case round=>
  obtain⟨i,j,YG,hj,rfl,rfl,aU,Z2,hhi⟩:=hrel
  have VT:Hid (∀k (hk:k<L.length),k<i→Tb.c8 L[k] r<0):=Z2
  have HHI:Hid (∀k (hk:k<L.length),j≤k→¬Tb.c8 L[k] r<0):=hhi
  clear Z2 hhi
  by_cases aE:i<j
  · obtain⟨m,hm⟩:∃m:Nat,m=(i+j)/2:=⟨_,rfl⟩
    have hm1:i≤m:=by omega
    have YB:m<j:=by omega
    have HM:Hid (m=(i+j)/2):=hm
    have hmL:m<L.length:=by omega
    obtain⟨g,x,y,z,rfl,hg,hc,hx,d0,d1,d2⟩:=(h0.below aU).at hmL
    have HX:Hid (L[m]=[x,y,z]):=hx
    have ht:=aU.block w.heap.size (by omega)
    rw[lX]at ht
    have t0:wr.cell? ⟨w.heap.size,0,none⟩=some (.string a):=by rw[cell_of_row _ _ 0 _ _ _ ht];rfl
    have t1:wr.cell? ⟨w.heap.size,1,none⟩=some (.string b):=by rw[cell_of_row _ _ 1 _ _ _ ht];rfl
    have t2:wr.cell? ⟨w.heap.size,2,none⟩=some (.string c):=by rw[cell_of_row _ _ 2 _ _ _ ht];rfl
    have PC:w.heap.size<wr.heap.size:=by have:=aU.size;omega
    have w1:IntKind.i64.wrap ((i:Int)+(j:Int))=(i:Int)+(j:Int):=by rw[IntKind.wrap_i64];omega
    clear hx hm ht
    have hmI:((i:Int)+(j:Int))/2=(m:Int):=by have:=HM.out;omega
    go_upto_region 5 with fail
    go_cut [31]from 15 to 34 (fun cv wx=>cv=.bool (decide (Tb.c8 [x,y,z] r<0))∧Below w0.heap.size w0 wx)
    case first=>
     go_region_with (go_at_call 132;refine(qC _ _ _ _).mono ?_;rintro e w5 ⟨rfl,la⟩)
     all_goals (go_wp2_with fail;go_meet;exact⟨by rfl,aU.drew.trans (la.mono (by exact aU.size))⟩)
    case rest=>
     obtain⟨rfl,yJ⟩:=hcut
     have key:Hid ((Tb.c8 [x,y,z] r<0)=(Tb.c8 L[m] r<0)):=by rw[HX.out];rfl
     cases hq:decide (Tb.c8 [x,y,z] r<0)with
     | true=>
      have Hn:Hid (Tb.c8 L[m] r<0):=by have:=of_decide_eq_true hq;rw[HX.out];exact this
      clear hq key aU d0 d1 d2 t0 t1 t2
      go_wp2_with fail
      go_roundw
      case rel=>
       refine⟨m+1,j,by omega,hj,by go_num,rfl,yJ,fun k hk BI=> ?_,HHI.out⟩
       exact Tb.Eo HO.out (by omega) hmL Hn.out
      case measure=>simp[intOf];omega
     | false=>
      have Hn:Hid (¬Tb.c8 L[m] r<0):=by have:=of_decide_eq_false hq;rw[HX.out];exact this
      clear hq key aU d0 d1 d2 t0 t1 t2
      go_wp2_with fail
      go_roundw
      case rel=>
       refine⟨i,m,by omega,by omega,rfl,rfl,yJ,VT.out,fun k hk BI uI=> ?_⟩
       exact Hn.out (Tb.Eo HO.out BI hk uI)
      case measure=>simp[intOf];omega
  · have Wd:i=j:=by omega
    have ux:Hid (Tb.pos L r=i):=UE (by omega) VT.out (fun k hk BI=>HHI.out k hk (by omega))
    by_cases dN:i<L.length
    · obtain⟨g,x,y,z,rfl,hg,hc,hx,d0,d1,d2⟩:=(h0.below aU).at dN
      have HX:Hid (L[i]=[x,y,z]):=hx
      have ht:=aU.block w.heap.size (by omega)
      rw[lX]at ht
      have t0:wr.cell? ⟨w.heap.size,0,none⟩=some (.string a):=by rw[cell_of_row _ _ 0 _ _ _ ht];rfl
      have t1:wr.cell? ⟨w.heap.size,1,none⟩=some (.string b):=by rw[cell_of_row _ _ 1 _ _ _ ht];rfl
      have t2:wr.cell? ⟨w.heap.size,2,none⟩=some (.string c):=by rw[cell_of_row _ _ 2 _ _ _ ht];rfl
      have PC:w.heap.size<wr.heap.size:=by have:=aU.size;omega
      have Cz:Hid (Tb.mg L r=decide (Tb.c8 [x,y,z] r=0)):=by
       have h1:=Tb.fK HO.out r
       rw[ux.out,List.getElem?_eq_getElem dN,HX.out]at h1
       rw[Bool.eq_iff_iff,Tb.dY,decide_eq_true_eq,Tb.sQ,←h1,Option.some.injEq]
       exact Iff.rfl
      have HJ:Hid (i=j):=Wd
      clear hx ht Wd
      have k0:=cell_regrown d0
      have k1:=cell_regrown d1
      have k2:=cell_regrown d2
      have l0:=cell_regrown t0
      have l1:=cell_regrown t1
      have l2:=cell_regrown t2
      have cC:∀d os,Calls Tryz.prog 132 #[.agg #[.string x,.string y,.string z],.agg #[.string a,.string b,.string c]] (grow (redrawn wr d) os) fun e Yh=>e=.returned (.int .i64 (Tb.c8 [x,y,z] r))∧∃p:Regrown,Yh=grow (redrawn wr p.d) p.os:=fun d os=>Calls.regrown_of (qC _ _ _ _)
      generalize Tb.c8 [x,y,z] r=q at Cz cC
      have nW:Hid ((Value.tuple #[.int .i64 (Tb.pos L r:Nat),.bool (Tb.mg L r)])=.tuple #[.int .i64 (i:Nat),.bool (q==0)]):=by
       have e1:(q==0)=decide (q=0):=by rw[Bool.eq_iff_iff];simp
       rw[ux.out,Cz.out,←e1]
       rfl
      clear qC d0 d1 d2 t0 t1 t2
      go_upto_region 8 with fail
      refine wp_region_quiet_below (by kernel_rfl) (by kernel_rfl) ?_
      repeat (quiet_step (first | exact cC _ _))
      refine wpQuiet_nil ?_
      intro _ Rs
      obtain⟨⟨dq,Lz⟩,FR⟩:=Rs
      subst FR
      go_wp2_with fail
      have dU:Below w.heap.size w (grow (redrawn wr dq) Lz):=(bL.trans (aU.mono bL.size)).trans ((below_regrown wr dq Lz).mono (by have:=bL.size;have:=aU.size;omega))
      go_ret2
      exact⟨by rw[nW.out];rfl,dU⟩
    · have Cz:Hid (Tb.mg L r=false):=by
       rw[Bool.eq_false_iff]
       intro hc
       have h1:=(Tb.fK HO.out r).2 (Tb.dY.1 hc)
       rw[ux.out,List.getElem?_eq_none (by omega)]at h1
       cases h1
      have hiL:i=L.length:=by omega
      have HIL:Hid (i=L.length):=hiL
      have nW:Hid ((Value.tuple #[.int .i64 (Tb.pos L r:Nat),.bool (Tb.mg L r)])=.tuple #[.int .i64 (i:Nat),.bool false]):=by
       rw[ux.out,Cz.out]
       rfl
      clear hiL Wd
      go_upto_region 8 with fail
      go_region
      all_goals (go_wp2_with fail)
      have dU:Below w.heap.size w wr.drew:=(bL.trans (aU.mono bL.size)).drew
      go_ret2
      exact⟨by rw[nW.out];rfl,dU⟩
theorem ss(w:World)(g:Nat)(rd:Option Addr)(rc:Nat)(L:List (List ByteArray))(a b c:ByteArray)(h:kj w rd rc L)(hL:L.length≤1000000)(ho:Tb.Ord L)(hc:w.cell? ⟨g,2,none⟩=some (.slice rd L.length rc)):
 Calls Tryz.prog 75 #[.pointer (some ⟨g,0,none⟩),.agg #[.string a,.string b,.string c]] w fun e w'=>
  e=.returned (.tuple #[.int .i64 (Tb.pos L [a,b,c]:Nat),.bool (Tb.mg L [a,b,c])])∧Below w.heap.size w w':=by
 obtain⟨w0,cZ⟩:∃w0,w0=w.alloc (.cells #[.string a,.string b,.string c] 119):=⟨_,rfl⟩
 have bL:Below w.heap.size w w0:=by rw[cZ];exact(Below.refl _ _).alloc (Nat.le_refl _) _
 have lX:w0.heap[w.heap.size]?=some (.cells #[.string a,.string b,.string c] 119 (0,0)):=by rw[cZ];exact heap_alloc_new w _
 have t0:w0.cell? ⟨w.heap.size,0,none⟩=some (.string a):=by rw[cell_of_row _ _ 0 _ _ _ lX];rfl
 have t1:w0.cell? ⟨w.heap.size,1,none⟩=some (.string b):=by rw[cell_of_row _ _ 1 _ _ _ lX];rfl
 have t2:w0.cell? ⟨w.heap.size,2,none⟩=some (.string c):=by rw[cell_of_row _ _ 2 _ _ _ lX];rfl
 have Ol:w0.cell? ⟨g,2,none⟩=some (.slice rd L.length rc):=by rw[bL.cell (block_lt_of_cell hc)];exact hc
 have h0:kj w0 rd rc L:=h.below bL
 have k0:=cell_regrown t0
 have k1:=cell_regrown t1
 have k2:=cell_regrown t2
 have k3:=cell_regrown Ol
 have cC:∀d os,Calls Tryz.prog 131 #[.slice rd L.length rc,.agg #[.string a,.string b,.string c],.func (Fn.func 132) #[] #[]] (grow (redrawn w0 d) os) fun e Yh=>e=.returned (.tuple #[.int .i64 (Tb.pos L [a,b,c]:Nat),.bool (Tb.mg L [a,b,c])])∧∃p:Regrown,Yh=grow (redrawn w0 p.d) p.os:=fun d os=>Calls.regrown_of (Ep _ rd rc L a b c (h0.below (below_regrown w0 d os)) hL ho)
 generalize Tb.pos L [a,b,c]=ps at cC ⊢
 generalize Tb.mg L [a,b,c]=fb at cC ⊢
 clear h0 h hc t0 t1 t2 lX ho
 go_enter Tryz.func75,Tryz.ntmps75
 go_wp2_with fail
 rw[←cZ]
 clear cZ
 refine wp_region_quiet_below (by kernel_rfl) (by kernel_rfl) ?_
 repeat (quiet_step (first | exact cC _ _))
 refine wpQuiet_nil ?_
 intro _ Rs
 obtain⟨⟨dq,Lz⟩,FR⟩:=Rs
 subst FR
 go_wp2_with fail
 have dU:Below w.heap.size w (grow (redrawn w0 dq) Lz):=bL.trans ((below_regrown w0 dq Lz).mono bL.size)
 go_ret2
 exact⟨rfl,dU⟩
end
end Go.Proofs.YtdmicblafmhflaaGreatDoor
