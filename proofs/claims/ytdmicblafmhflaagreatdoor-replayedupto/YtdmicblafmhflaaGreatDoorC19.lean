/- Package follow: match. -/
import Derived.Test.YtdmicblafmhflaaGreatDoorC18
set_option linter.unusedSimpArgs false
set_option linter.unusedVariables false
set_option maxHeartbeats 4000000
set_option maxRecDepth 100000
namespace Go.Proofs.YtdmicblafmhflaaGreatDoor
section
open Go.RowKit
open Go.Sort (grow)
theorem DF{t:Ax.Term}{ts:List Ax.Term}{n:ByteArray}{ns:List ByteArray}{b:En.Bind}:En.fP (t::ts) (n::ns) b=if En.dJ (En.val b) t=n then En.fP ts ns b else if En.dJ (En.val b) t=En.ee then En.fP ts ns (b++[(t.text,n)])else none:=rfl
theorem IL:En.ee.toList=[]:=by rw[ByteArray.toList_eq];rfl
def T8(a b c:ByteArray):Nat→ByteArray:=fun i=>if i=0 then a else if i=1 then b else c
theorem YM{a b c:ByteArray}{i:Nat}(h:i<3):[a,b,c].drop i=T8 a b c i::[a,b,c].drop (i+1):=by
 have:i=0∨i=1∨i=2:=by omega
 rcases this with rfl | rfl | rfl<;>rfl
def FX(w:World)(r n:Nat)(X Y:Nat→ByteArray):World:=(((((((((((((w.setCell ⟨r,0,none⟩ (.int .i64 n)).setCell ⟨r,1,none⟩ (.string (X 0))).setCell ⟨r,2,none⟩ (.string (Y 0))).setCell ⟨r,3,none⟩ (.string (X 1))).setCell ⟨r,4,none⟩ (.string (Y 1))).setCell ⟨r,5,none⟩ (.string (X 2))).setCell ⟨r,6,none⟩ (.string (Y 2))).setCell ⟨r,7,none⟩ (.string (X 3))).setCell ⟨r,8,none⟩ (.string (Y 3))).setCell ⟨r,9,none⟩ (.string (X 4))).setCell ⟨r,10,none⟩ (.string (Y 4))).setCell ⟨r,11,none⟩ (.string (X 5))).setCell ⟨r,12,none⟩ (.string (Y 5)))
theorem tS{w:World}{r m n:Nat}{A B X Y:Nat→ByteArray}{T:TypeId}(h:w.heap[r]?=some (.cells (cI m A B) T (0,0))):(FX w r n X Y).heap[r]?=some (.cells (cI n X Y) T (0,0))∧Kb [r] w (FX w r n X Y):=by
 have h0:=an _ h 0 (.int .i64 n)
 have h1:=an _ h0 1 (.string (X 0))
 have h2:=an _ h1 2 (.string (Y 0))
 have h3:=an _ h2 3 (.string (X 1))
 have h4:=an _ h3 4 (.string (Y 1))
 have h5:=an _ h4 5 (.string (X 2))
 have h6:=an _ h5 6 (.string (Y 2))
 have h7:=an _ h6 7 (.string (X 3))
 have h8:=an _ h7 8 (.string (Y 3))
 have h9:=an _ h8 9 (.string (X 4))
 have Wr:=an _ h9 10 (.string (Y 4))
 have Pu:=an _ Wr 11 (.string (X 5))
 have Tx:=an _ Pu 12 (.string (Y 5))
 refine⟨by simpa [FX,cI]using Tx, ?_⟩
 exact((((((((((((Kb.setCell w ⟨r,0,none⟩ (.int .i64 (n:Int))).trans (Kb.setCell _ ⟨r,1,none⟩ (.string (X 0)))).trans (Kb.setCell _ ⟨r,2,none⟩ (.string (Y 0)))).trans (Kb.setCell _ ⟨r,3,none⟩ (.string (X 1)))).trans (Kb.setCell _ ⟨r,4,none⟩ (.string (Y 1)))).trans (Kb.setCell _ ⟨r,5,none⟩ (.string (X 2)))).trans (Kb.setCell _ ⟨r,6,none⟩ (.string (Y 2)))).trans (Kb.setCell _ ⟨r,7,none⟩ (.string (X 3)))).trans (Kb.setCell _ ⟨r,8,none⟩ (.string (Y 3)))).trans (Kb.setCell _ ⟨r,9,none⟩ (.string (X 4)))).trans (Kb.setCell _ ⟨r,10,none⟩ (.string (Y 4)))).trans (Kb.setCell _ ⟨r,11,none⟩ (.string (X 5)))).trans (Kb.setCell _ ⟨r,12,none⟩ (.string (Y 5)))
def Pc(w:World)(R:Option En.Bind)(m:Nat)(e:Ending)(w':World):Prop:=Below w.heap.size w w'∧
 ((R=none∧e=.returned (.tuple #[.agg (cI 0 (fun _=>⟨#[]⟩) (fun _=>⟨#[]⟩)),.bool false]))∨(∃b1 n1 X1 Y1,R=some b1∧Cq b1 n1 X1 Y1∧n1≤m∧e=.returned (.tuple #[.agg (cI n1 X1 Y1),.bool true])))
theorem NU(w:World)(b0:En.Bind)(n0:Nat)(X0 Y0:Nat→ByteArray)(a:Ax.Atom)(ad:Option Addr)(ac m:Nat)(pr x y z:ByteArray)(hp:¬a.pred=pr):
 Calls Tryz.prog 266 #[.agg (cI n0 X0 Y0),.agg #[.int .i64 a.at_,.string a.pred,.slice ad a.ag.length ac],.agg #[.string pr,.string x,.string y,.string z]] w (Pc w none m):=by
 have vk:(a.pred.toList==pr.toList)=false:=by rw[eB];simp[hp]
 have YV:(a.pred.toList != pr.toList)=true:=by simp[bne,vk]
 clear hp
 unfold cI
 go_enter Tryz.func266,Tryz.ntmps266
 go_wp2_with fail
 exact bodyPost_ret (v:=.tuple #[.agg #[.int .i64 0,.string ⟨#[]⟩,.string ⟨#[]⟩,.string ⟨#[]⟩,.string ⟨#[]⟩,.string ⟨#[]⟩,.string ⟨#[]⟩,.string ⟨#[]⟩,.string ⟨#[]⟩,.string ⟨#[]⟩,.string ⟨#[]⟩,.string ⟨#[]⟩,.string ⟨#[]⟩],.bool false]) (by simp[results,Tryz.results266,go_sem]) rfl ⟨((((Below.refl _ _).alloc (Nat.le_refl _) _).alloc (by simp) _).alloc (by simp;omega) _).alloc (by simp;omega) _,.inl ⟨rfl,rfl⟩⟩
structure MW(w w0:World)(n:Nat)(X Y:Nat→ByteArray)(pr x y z:ByteArray):Prop where
 below:Below w.heap.size w w0
 size:w0.heap.size=w.heap.size+4
 bnd:w0.heap[w.heap.size]?=some (.cells (cI n X Y) 369 (0,0))
 fct:w0.heap[w.heap.size+2]?=some (.cells #[.string pr,.string x,.string y,.string z] 325 (0,0))
 res:w0.heap[w.heap.size+3]?=some (.cells (cI 0 (fun _=>⟨#[]⟩) (fun _=>⟨#[]⟩)) 369 (0,0))
theorem P8(w:World)(n:Nat)(X Y:Nat→ByteArray)(o:Obj)(pr x y z:ByteArray):MW w ((((w.alloc (.cells (cI n X Y) 369)).alloc o).alloc (.cells #[.string pr,.string x,.string y,.string z] 325)).alloc (.cells (cI 0 (fun _=>⟨#[]⟩) (fun _=>⟨#[]⟩)) 369)) n X Y pr x y z where
 below:=((((Below.refl _ _).alloc (Nat.le_refl _) _).alloc (by simp) _).alloc (by simp;omega) _).alloc (by simp;omega) _
 size:=by simp
 bnd:=by
  rw[Below.heap_alloc _ _ _ (by simp;omega),Below.heap_alloc _ _ _ (by simp;omega),Below.heap_alloc _ _ _ (by simp)]
  exact heap_alloc_new w _
 fct:=by
  rw[Below.heap_alloc _ _ _ (by simp)]
  have:=heap_alloc_new ((w.alloc (.cells (cI n X Y) 369)).alloc o) (.cells #[.string pr,.string x,.string y,.string z] 325)
  simpa using this
 res:=by
  have:=heap_alloc_new (((w.alloc (.cells (cI n X Y) 369)).alloc o).alloc (.cells #[.string pr,.string x,.string y,.string z] 325)) (.cells (cI 0 (fun _=>⟨#[]⟩) (fun _=>⟨#[]⟩)) 369)
  simpa using this
theorem JI(w:World)(b0:En.Bind)(n0:Nat)(X0 Y0:Nat→ByteArray)(bL:Cq b0 n0 X0 Y0)(a:Ax.Atom)(ad:Option Addr)(ac:Nat)(pr x y z:ByteArray)(hp:a.pred=pr)
 (ha:MA.ok w (a,.slice ad a.ag.length ac))(hk:∀t,t∈a.ag→t.kind=0∨t.kind=1)(h3:a.ag.length≤3)(hn:n0+a.ag.length≤6):
 Calls Tryz.prog 266 #[.agg (cI n0 X0 Y0),.agg #[.int .i64 a.at_,.string a.pred,.slice ad a.ag.length ac],.agg #[.string pr,.string x,.string y,.string z]] w (Pc w (En.fP a.ag [x,y,z] b0) (n0+a.ag.length)):=by
 have vk:(a.pred.toList==pr.toList)=true:=by rw[eB];simp[hp]
 have YV:(a.pred.toList != pr.toList)=false:=by simp[bne,vk]
 obtain⟨w0,cZ,hmw⟩:∃w0,w0=((((w.alloc (.cells (cI n0 X0 Y0) 369)).alloc (.cells #[.int .i64 a.at_,.string a.pred,.slice ad a.ag.length ac] 219)).alloc (.cells #[.string pr,.string x,.string y,.string z] 325)).alloc (.cells (cI 0 (fun _=>⟨#[]⟩) (fun _=>⟨#[]⟩)) 369))∧MW w w0 n0 X0 Y0 pr x y z:=⟨_,rfl,P8 w n0 X0 Y0 _ pr x y z⟩
 generalize hR:En.fP a.ag [x,y,z] b0=R
 have HK:Hid (∀t,t∈a.ag→t.kind=0∨t.kind=1):=hk
 unfold MA.ok at ha
 simp only at ha
 have hle:=bh ha
 clear hp hk
 go_enter Tryz.func266,Tryz.ntmps266
 have Cp:∀n X Y,cI n X Y=#[.int .i64 n,.string (X 0),.string (Y 0),.string (X 1),.string (Y 1),.string (X 2),.string (Y 2),.string (X 3),.string (Y 3),.string (X 4),.string (Y 4),.string (X 5),.string (Y 5)]:=fun _ _ _=>rfl
 rw[Cp n0 X0 Y0]
 go_wp2_with fail
 rw[←Cp n0 X0 Y0]
 change Code.wp Tryz.prog _ _ _ ((((w.alloc (.cells (cI n0 X0 Y0) 369)).alloc (.cells #[.int .i64 a.at_,.string a.pred,.slice ad a.ag.length ac] 219)).alloc (.cells #[.string pr,.string x,.string y,.string z] 325)).alloc (.cells (cI 0 (fun _=>⟨#[]⟩) (fun _=>⟨#[]⟩)) 369))
 rw[←cZ]
 clear cZ Cp vk YV
 obtain⟨mb,ms,VP,Ev,C3⟩:=hmw
 go_loopw [19] (fun iv wr=>∃(k n:Nat) (b:En.Bind) (X Y:Nat→ByteArray),k≤a.ag.length∧n≤n0+k∧iv=.int .i64 k∧Cq b n X Y∧wr.heap[w.heap.size]?=some (.cells (cI n X Y) 369 (0,0))∧Kb [w.heap.size] w0 wr∧En.fP (a.ag.drop k) ([x,y,z].drop k) b=R) (fun iv _=>a.ag.length-(intOf iv).toNat)
 case atStart=>exact⟨0,n0,b0,X0,Y0,Nat.zero_le _,Nat.le_refl _,rfl,bL,VP,Kb.refl _ _,by simpa using hR⟩
 case round=>
  obtain⟨k,n,b,X,Y,Cz,ZK,rfl,hb,fl,fG,hr⟩:=hrel
  have uV:Hid (En.fP (a.ag.drop k) ([x,y,z].drop k) b=R):=hr
  clear hr hR
  have cE:=fG.size
  have bQ:wr.ownsRow 0 310 2 (.slice ad a.ag.length ac) a.ag.length (cl a.ag):=fG.row (ae ha mb) (fun q hq hm=>by
   simp only[List.mem_singleton]at hm
   have:=(World.ownsRow.lt ha q hq).2
   omega)
  have U9:wr.heap[w.heap.size+1+1]?=some (.cells #[.string pr,.string x,.string y,.string z] 325 (0,0)):=fG.heap Ev (by simp only[List.mem_singleton];omega)
  have fV:wr.heap[w.heap.size+1+1+1]?=some (.cells (cI 0 (fun _=>⟨#[]⟩) (fun _=>⟨#[]⟩)) 369 (0,0)):=fG.heap C3 (by simp only[List.mem_singleton];omega)
  have mw:Below w.heap.size w wr:=fG.aJ mb (by omega) (fun i hi=>by simp at hi;omega)
  by_cases aE:k<a.ag.length
  · obtain⟨tg,rfl,lY,htc,vB⟩:=aD bQ (by omega)
    obtain⟨y0,y1⟩:=fe a.ag k aE
    have d0:=vB _ _ y0
    have d1:=vB _ _ y1
    have Lo:=HK.out _ (List.getElem_mem aE)
    rw[List.drop_eq_getElem_cons aE,YM (by omega),DF]at uV
    generalize a.ag[k]=t at d0 d1 Lo uV
    obtain⟨tk,tt⟩:=t
    simp only at d0 d1
    have f0:wr.cell? ⟨w.heap.size+1+1,1+k,none⟩=some (.string (T8 x y z k)):=by
     rw[cell_of_row _ _ _ _ _ _ U9]
     have:k=0∨k=1∨k=2:=by omega
     rcases this with rfl | rfl | rfl<;>rfl
    have gh:∀W,Below wr.heap.size wr W→Calls Tryz.prog 286 #[.pointer (some ⟨w.heap.size,0,none⟩),.agg #[.int .i64 tk,.string tt]] W fun e w'=>e=.returned (.string (En.dJ (En.val b) ⟨tk,tt⟩))∧Below W.heap.size W w':=fun W hW=>CK W w.heap.size n X Y b hb ⟨tk,tt⟩ Lo (by rw[hW.block _ (by omega)];exact fl)
    generalize hv:En.dJ (En.val b) ⟨tk,tt⟩=v at gh uV
    generalize hnn:T8 x y z k=nn at f0 uV
    have Hn:w.heap.size<wr.heap.size:=by omega
    have OK:w.heap.size+1+1<wr.heap.size:=by omega
    clear vB bQ Ev C3 VP U9 y0 y1 Lo hv hnn
    by_cases heq:v=nn
    · have Sj:(v.toList==nn.toList)=true:=by rw[eB];simp[heq]
      rw[if_pos heq]at uV
      clear heq
      go_wp2_with (go_at_call 286;refine(gh _ (by exact(Below.refl _ _).alloc (Nat.le_refl _) _)).mono ?_;rintro e w1 ⟨rfl,a8⟩;have fQ:Below wr.heap.size wr w1:=((Below.refl _ _).alloc (Nat.le_refl _) _).trans (a8.mono (by simp));have f1:w1.cell? ⟨w.heap.size+1+1,1+k,none⟩=some (.string nn):=(fQ.cell OK).trans f0;have kA:=fQ.size;have TH:w.heap.size+1+1<w1.heap.size:=(by omega);clear a8 gh)
      go_roundw
      case rel=>
       refine⟨k+1,n,b,X,Y,by omega,by omega,by go_num,hb, ?_,fG.below fQ,uV.out⟩
       rw[fQ.block _ Hn]
       exact fl
      case measure=>simp[intOf];omega
    · have Sj:(v.toList==nn.toList)=false:=by rw[eB];simp[heq]
      rw[if_neg heq]at uV
      clear heq
      by_cases TD:v=En.ee
      · have ti:v.toList.isEmpty=true:=by rw[TD,IL];rfl
        rw[if_pos TD]at uV
        have HEM:Hid (v=En.ee):=TD
        clear TD
        have UT:∀W:World,Below (wr.alloc (.cells #[.int .i64 tk,.string tt] 310)).heap.size (wr.alloc (.cells #[.int .i64 tk,.string tt] 310)) W→W.cell? ⟨wr.heap.size,1,none⟩=some (.string tt):=fun W hW=>by
         have e:W.heap[wr.heap.size]?=some (.cells #[.int .i64 tk,.string tt] 310 (0,0)):=by rw[hW.block _ (by simp)];exact heap_alloc_new wr _
         rw[cell_of_row _ _ 1 _ _ _ e];rfl
        go_upto_region 10 with(go_at_call 286;refine(gh _ (by exact(Below.refl _ _).alloc (Nat.le_refl _) _)).mono ?_;rintro e w1 ⟨rfl,a8⟩;have fQ:Below wr.heap.size wr w1:=((Below.refl _ _).alloc (Nat.le_refl _) _).trans (a8.mono (by simp));have f1:w1.cell? ⟨w.heap.size+1+1,1+k,none⟩=some (.string nn):=(fQ.cell OK).trans f0;have kA:=fQ.size;have TH:w.heap.size+1+1<w1.heap.size:=(by omega);have mM:Hid (Below (wr.alloc (.cells #[.int .i64 tk,.string tt] 310)).heap.size (wr.alloc (.cells #[.int .i64 tk,.string tt] 310)) w1):=a8;clear a8 gh)
        have u1:w1.cell? ⟨wr.heap.size,1,none⟩=some (.string tt):=UT w1 mM.out
        have acj:w1.heap[w.heap.size]?=some (.cells (cI n X Y) 369 (0,0)):=by rw[fQ.block _ Hn];exact fl
        have rl:=fun W (hW:W.heap=w1.heap)=>Qt W w.heap.size n X Y tt nn (by omega) (by rw[hW];exact acj)
        have aih:wr.heap.size<w1.heap.size:=by have:=mM.out.size;simp at this;omega
        clear mM UT
        go_region_with (go_at_call 287;refine(rl _ (by rfl)).mono ?_;rintro e w2 ⟨rfl,YZ,MB⟩)
        all_goals
         (go_wp2_with fail
          go_roundw
          case rel=>
           refine⟨k+1,n+1,_,_,_,by omega,by omega,by go_num,hb.snoc (by omega) tt nn,YZ,(fG.below fQ).trans (Kb.XI MB),uV.out⟩
          case measure=>simp[intOf];omega)
      · have ti:v.toList.isEmpty=false:=by rw[Bool.eq_false_iff];intro hc;rw[List.isEmpty_iff]at hc;exact TD (Tb.toList_inj (by rw[hc,IL]))
        rw[if_neg TD]at uV
        clear TD
        go_upto_region 7 with(go_at_call 286;refine(gh _ (by exact(Below.refl _ _).alloc (Nat.le_refl _) _)).mono ?_;rintro e w1 ⟨rfl,a8⟩;have fQ:Below wr.heap.size wr w1:=((Below.refl _ _).alloc (Nat.le_refl _) _).trans (a8.mono (by simp));have f1:w1.cell? ⟨w.heap.size+1+1,1+k,none⟩=some (.string nn):=(fQ.cell OK).trans f0;have kA:=fQ.size;have TH:w.heap.size+1+1<w1.heap.size:=(by omega);clear a8 gh)
        have jR:w1.heap[w.heap.size+1+1+1]?=some (.cells (cI 0 (fun _=>⟨#[]⟩) (fun _=>⟨#[]⟩)) 369 (0,0)):=by rw[fQ.block _ (by omega)];exact fV
        have sQ:Hid (w1.heap[w.heap.size+1+1+1]?=some (.cells (cI 0 (fun _=>⟨#[]⟩) (fun _=>⟨#[]⟩)) 369 (0,0))):=jR
        have r0:w1.cell? ⟨w.heap.size+1+1+1,0,none⟩=some (.int .i64 0):=by rw[cell_of_row _ _ _ _ _ _ jR];rfl
        have r1:w1.cell? ⟨w.heap.size+1+1+1,1,none⟩=some (.string ⟨#[]⟩):=by rw[cell_of_row _ _ _ _ _ _ jR];rfl
        have r2:w1.cell? ⟨w.heap.size+1+1+1,2,none⟩=some (.string ⟨#[]⟩):=by rw[cell_of_row _ _ _ _ _ _ jR];rfl
        have r3:w1.cell? ⟨w.heap.size+1+1+1,3,none⟩=some (.string ⟨#[]⟩):=by rw[cell_of_row _ _ _ _ _ _ jR];rfl
        have r4:w1.cell? ⟨w.heap.size+1+1+1,4,none⟩=some (.string ⟨#[]⟩):=by rw[cell_of_row _ _ _ _ _ _ jR];rfl
        have r5:w1.cell? ⟨w.heap.size+1+1+1,5,none⟩=some (.string ⟨#[]⟩):=by rw[cell_of_row _ _ _ _ _ _ jR];rfl
        have r6:w1.cell? ⟨w.heap.size+1+1+1,6,none⟩=some (.string ⟨#[]⟩):=by rw[cell_of_row _ _ _ _ _ _ jR];rfl
        have r7:w1.cell? ⟨w.heap.size+1+1+1,7,none⟩=some (.string ⟨#[]⟩):=by rw[cell_of_row _ _ _ _ _ _ jR];rfl
        have r8:w1.cell? ⟨w.heap.size+1+1+1,8,none⟩=some (.string ⟨#[]⟩):=by rw[cell_of_row _ _ _ _ _ _ jR];rfl
        have r9:w1.cell? ⟨w.heap.size+1+1+1,9,none⟩=some (.string ⟨#[]⟩):=by rw[cell_of_row _ _ _ _ _ _ jR];rfl
        have r10:w1.cell? ⟨w.heap.size+1+1+1,10,none⟩=some (.string ⟨#[]⟩):=by rw[cell_of_row _ _ _ _ _ _ jR];rfl
        have r11:w1.cell? ⟨w.heap.size+1+1+1,11,none⟩=some (.string ⟨#[]⟩):=by rw[cell_of_row _ _ _ _ _ _ jR];rfl
        have r12:w1.cell? ⟨w.heap.size+1+1+1,12,none⟩=some (.string ⟨#[]⟩):=by rw[cell_of_row _ _ _ _ _ _ jR];rfl
        have rf:∀o,w1.frozen? ⟨w.heap.size+1+1+1,o,none⟩=false:=fun o=>by simp[World.frozen?,jR]
        have abO:w.heap.size+1+1+1<w1.heap.size:=by omega
        have ada:Below w.heap.size w w1:=mw.trans (fQ.mono (by omega))
        clear jR fV
        go_wp2_with fail
        change bodyPost Tryz.prog _ _ _ _ (FX w1 (w.heap.size+1+1+1) 0 (fun _=>⟨#[]⟩) (fun _=>⟨#[]⟩))
        obtain⟨hu,PH⟩:=tS (n:=0) (X:=fun _=>⟨#[]⟩) (Y:=fun _=>⟨#[]⟩) sQ.out
        generalize FX w1 (w.heap.size+1+1+1) 0 (fun _=>⟨#[]⟩) (fun _=>⟨#[]⟩)=wz at hu PH ⊢
        have RK:Below w.heap.size w wz:=PH.aJ ada (by omega) (fun i hi=>by simp at hi;omega)
        have zc:=ab hu
        have hwz:=lt_of_heap hu
        refine bodyPost_ret (v:=.tuple #[.agg (cI 0 (fun _=>⟨#[]⟩) (fun _=>⟨#[]⟩)),.bool false]) ?_ rfl ⟨RK,.inl ⟨uV.out.symm,rfl⟩⟩
        unfold cI at zc ⊢
        simp[results,Tryz.results266,go_sem,zc]
  · have e1:a.ag.drop k=[]:=List.drop_of_length_le (by omega)
    have HF:Hid (R=some b):=by rw[←uV.out,e1];rfl
    have q0:wr.cell? ⟨w.heap.size,0,none⟩=some (.int .i64 n):=by rw[cell_of_row _ _ _ _ _ _ fl];rfl
    have q1:wr.cell? ⟨w.heap.size,1,none⟩=some (.string (X 0)):=by rw[cell_of_row _ _ _ _ _ _ fl];rfl
    have q2:wr.cell? ⟨w.heap.size,2,none⟩=some (.string (Y 0)):=by rw[cell_of_row _ _ _ _ _ _ fl];rfl
    have q3:wr.cell? ⟨w.heap.size,3,none⟩=some (.string (X 1)):=by rw[cell_of_row _ _ _ _ _ _ fl];rfl
    have q4:wr.cell? ⟨w.heap.size,4,none⟩=some (.string (Y 1)):=by rw[cell_of_row _ _ _ _ _ _ fl];rfl
    have q5:wr.cell? ⟨w.heap.size,5,none⟩=some (.string (X 2)):=by rw[cell_of_row _ _ _ _ _ _ fl];rfl
    have q6:wr.cell? ⟨w.heap.size,6,none⟩=some (.string (Y 2)):=by rw[cell_of_row _ _ _ _ _ _ fl];rfl
    have q7:wr.cell? ⟨w.heap.size,7,none⟩=some (.string (X 3)):=by rw[cell_of_row _ _ _ _ _ _ fl];rfl
    have q8:wr.cell? ⟨w.heap.size,8,none⟩=some (.string (Y 3)):=by rw[cell_of_row _ _ _ _ _ _ fl];rfl
    have q9:wr.cell? ⟨w.heap.size,9,none⟩=some (.string (X 4)):=by rw[cell_of_row _ _ _ _ _ _ fl];rfl
    have Wa:wr.cell? ⟨w.heap.size,10,none⟩=some (.string (Y 4)):=by rw[cell_of_row _ _ _ _ _ _ fl];rfl
    have V5:wr.cell? ⟨w.heap.size,11,none⟩=some (.string (X 5)):=by rw[cell_of_row _ _ _ _ _ _ fl];rfl
    have WC:wr.cell? ⟨w.heap.size,12,none⟩=some (.string (Y 5)):=by rw[cell_of_row _ _ _ _ _ _ fl];rfl
    have Hn:w.heap.size<wr.heap.size:=by omega
    have abO:w.heap.size+1+1+1<wr.heap.size:=by omega
    have r0:wr.cell? ⟨w.heap.size+1+1+1,0,none⟩=some (.int .i64 0):=by rw[cell_of_row _ _ _ _ _ _ fV];rfl
    have r1:wr.cell? ⟨w.heap.size+1+1+1,1,none⟩=some (.string ⟨#[]⟩):=by rw[cell_of_row _ _ _ _ _ _ fV];rfl
    have r2:wr.cell? ⟨w.heap.size+1+1+1,2,none⟩=some (.string ⟨#[]⟩):=by rw[cell_of_row _ _ _ _ _ _ fV];rfl
    have r3:wr.cell? ⟨w.heap.size+1+1+1,3,none⟩=some (.string ⟨#[]⟩):=by rw[cell_of_row _ _ _ _ _ _ fV];rfl
    have r4:wr.cell? ⟨w.heap.size+1+1+1,4,none⟩=some (.string ⟨#[]⟩):=by rw[cell_of_row _ _ _ _ _ _ fV];rfl
    have r5:wr.cell? ⟨w.heap.size+1+1+1,5,none⟩=some (.string ⟨#[]⟩):=by rw[cell_of_row _ _ _ _ _ _ fV];rfl
    have r6:wr.cell? ⟨w.heap.size+1+1+1,6,none⟩=some (.string ⟨#[]⟩):=by rw[cell_of_row _ _ _ _ _ _ fV];rfl
    have r7:wr.cell? ⟨w.heap.size+1+1+1,7,none⟩=some (.string ⟨#[]⟩):=by rw[cell_of_row _ _ _ _ _ _ fV];rfl
    have r8:wr.cell? ⟨w.heap.size+1+1+1,8,none⟩=some (.string ⟨#[]⟩):=by rw[cell_of_row _ _ _ _ _ _ fV];rfl
    have r9:wr.cell? ⟨w.heap.size+1+1+1,9,none⟩=some (.string ⟨#[]⟩):=by rw[cell_of_row _ _ _ _ _ _ fV];rfl
    have r10:wr.cell? ⟨w.heap.size+1+1+1,10,none⟩=some (.string ⟨#[]⟩):=by rw[cell_of_row _ _ _ _ _ _ fV];rfl
    have r11:wr.cell? ⟨w.heap.size+1+1+1,11,none⟩=some (.string ⟨#[]⟩):=by rw[cell_of_row _ _ _ _ _ _ fV];rfl
    have r12:wr.cell? ⟨w.heap.size+1+1+1,12,none⟩=some (.string ⟨#[]⟩):=by rw[cell_of_row _ _ _ _ _ _ fV];rfl
    have rf:∀o,wr.frozen? ⟨w.heap.size+1+1+1,o,none⟩=false:=fun o=>by simp[World.frozen?,fV]
    have sQ:Hid (wr.heap[w.heap.size+1+1+1]?=some (.cells (cI 0 (fun _=>⟨#[]⟩) (fun _=>⟨#[]⟩)) 369 (0,0))):=fV
    clear uV e1 U9 bQ fl VP Ev C3 fV
    go_wp2_with fail
    change bodyPost Tryz.prog _ _ _ _ (FX wr (w.heap.size+1+1+1) n X Y)
    obtain⟨hu,PH⟩:=tS (n:=n) (X:=X) (Y:=Y) sQ.out
    generalize FX wr (w.heap.size+1+1+1) n X Y=wz at hu PH ⊢
    have RK:Below w.heap.size w wz:=PH.aJ mw (by omega) (fun i hi=>by simp at hi;omega)
    have z:=ab hu
    have hwz:=lt_of_heap hu
    refine bodyPost_ret (v:=.tuple #[.agg (cI n X Y),.bool true]) ?_ rfl ⟨RK,.inr ⟨b,n,X,Y,HF.out,hb,by omega,rfl⟩⟩
    unfold cI at z ⊢
    simp[results,Tryz.results266,go_sem,z]
theorem KX(w:World)(b0:En.Bind)(n0:Nat)(X0 Y0:Nat→ByteArray)(bL:Cq b0 n0 X0 Y0)(a:Ax.Atom)(ad:Option Addr)(ac:Nat)(pr x y z:ByteArray)
 (ha:MA.ok w (a,.slice ad a.ag.length ac))(hk:∀t,t∈a.ag→t.kind=0∨t.kind=1)(h3:a.ag.length≤3)(hn:n0+a.ag.length≤6):
 Calls Tryz.prog 266 #[.agg (cI n0 X0 Y0),.agg #[.int .i64 a.at_,.string a.pred,.slice ad a.ag.length ac],.agg #[.string pr,.string x,.string y,.string z]] w (Pc w (En.dg a (pr,[x,y,z]) b0) (n0+a.ag.length)):=by
 unfold En.dg
 by_cases hp:a.pred=pr
 · rw[if_pos hp]
   exact JI w b0 n0 X0 Y0 bL a ad ac pr x y z hp ha hk h3 hn
 · rw[if_neg hp]
   exact NU w b0 n0 X0 Y0 a ad ac _ pr x y z hp
end
/- Package follow: fact. -/
section
open Go.RowKit
open Go.Sort (grow)
def fm(f:Nat→ByteArray)(k:Nat):Nat→ByteArray:=fun i=>if i<k then f i else ⟨#[]⟩
def lp(pr:ByteArray)(F:Nat→ByteArray):Array Value:=#[.string pr,.string (F 0),.string (F 1),.string (F 2)]
theorem On{pr:ByteArray}{f:Nat→ByteArray}{k:Nat}(hk:k<3){v:ByteArray}(hv:f k=v):(lp pr (fm f k)).setIfInBounds (1+k) (.string v)=lp pr (fm f (k+1)):=by
 subst hv
 have:k=0∨k=1∨k=2:=by omega
 rcases this with rfl | rfl | rfl<;>rfl
theorem OI{pr:ByteArray}{F:Nat→ByteArray}{k:Nat}(hk:k<3):(lp pr F)[1+k]?=some (.string (F k)):=by
 have:k=0∨k=1∨k=2:=by omega
 rcases this with rfl | rfl | rfl<;>rfl
def KR(ts:List Ax.Term)(s:ByteArray→ByteArray):Nat→ByteArray:=fun i=>((ts[i]?).map (En.dJ s)).getD ⟨#[]⟩
theorem OS(pr:ByteArray)(ts:List Ax.Term)(s:ByteArray→ByteArray)(h:ts.length≤3):lp pr (fm (KR ts s) ts.length)=#[.string pr,.string ((En.pad (ts.map (En.dJ s)))[0]?.getD ⟨#[]⟩),.string ((En.pad (ts.map (En.dJ s)))[1]?.getD ⟨#[]⟩),.string ((En.pad (ts.map (En.dJ s)))[2]?.getD ⟨#[]⟩)]:=by
 match ts,h with
 | [],_=>rfl
 | [_],_=>rfl
 | [_,_],_=>rfl
 | [_,_,_],_=>rfl
theorem Jy{l:List ByteArray}(h:l.length≤3):∃a b c,En.pad l=[a,b,c]:=by
 match l,h with
 | [],_=>exact⟨_,_,_,rfl⟩
 | [_],_=>exact⟨_,_,_,rfl⟩
 | [_,_],_=>exact⟨_,_,_,rfl⟩
 | [_,_,_],_=>exact⟨_,_,_,rfl⟩
def NY(w:World)(r:Nat)(pr:ByteArray)(F:Nat→ByteArray):World:=(((w.setCell ⟨r,0,none⟩ (.string pr)).setCell ⟨r,1,none⟩ (.string (F 0))).setCell ⟨r,2,none⟩ (.string (F 1))).setCell ⟨r,3,none⟩ (.string (F 2))
theorem K4{w:World}{r:Nat}{q pr:ByteArray}{G F:Nat→ByteArray}{T:TypeId}(h:w.heap[r]?=some (.cells (lp q G) T (0,0))):(NY w r pr F).heap[r]?=some (.cells (lp pr F) T (0,0))∧Kb [r] w (NY w r pr F):=by
 have h0:=an _ h 0 (.string pr)
 have h1:=an _ h0 1 (.string (F 0))
 have h2:=an _ h1 2 (.string (F 1))
 have h3:=an _ h2 3 (.string (F 2))
 refine⟨by simpa [NY,lp]using h3, ?_⟩
 exact(((Kb.setCell w ⟨r,0,none⟩ (.string pr)).trans (Kb.setCell _ ⟨r,1,none⟩ (.string (F 0)))).trans (Kb.setCell _ ⟨r,2,none⟩ (.string (F 1)))).trans (Kb.setCell _ ⟨r,3,none⟩ (.string (F 2)))
theorem Qw(w:World)(o1 o2 o3:Obj):Below w.heap.size w (((w.alloc o1).alloc o2).alloc o3)∧(((w.alloc o1).alloc o2).alloc o3).heap.size=w.heap.size+3∧(((w.alloc o1).alloc o2).alloc o3).heap[w.heap.size+1]?=some o2∧(((w.alloc o1).alloc o2).alloc o3).heap[w.heap.size+1+1]?=some o3:=by
 refine⟨(((Below.refl _ _).alloc (Nat.le_refl _) _).alloc (by simp) _).alloc (by simp;omega) _,by simp, ?_, ?_⟩
 · rw[Below.heap_alloc _ _ _ (by simp)]
   have:=heap_alloc_new (w.alloc o1) o2
   simpa using this
 · have:=heap_alloc_new ((w.alloc o1).alloc o2) o3
   simpa using this
theorem Nj(w:World)(g n:Nat)(X Y:Nat→ByteArray)(b:En.Bind)(hb:Cq b n X Y)(hg:w.heap[g]?=some (.cells (cI n X Y) 369 (0,0)))(a:Ax.Atom)(ad:Option Addr)(ac:Nat)
 (ha:MA.ok w (a,.slice ad a.ag.length ac))(hk:∀t,t∈a.ag→t.kind=0∨t.kind=1)(h3:a.ag.length≤3):
 Calls Tryz.prog 265 #[.pointer (some ⟨g,0,none⟩),.agg #[.int .i64 a.at_,.string a.pred,.slice ad a.ag.length ac]] w fun e w'=>Below w.heap.size w w'∧e=.returned (.agg (lp a.pred (fm (KR a.ag (En.val b)) a.ag.length))):=by
 have mO:=lt_of_heap hg
 unfold MA.ok at ha
 simp only at ha
 have hle:=bh ha
 have HK:Hid (∀t,t∈a.ag→t.kind=0∨t.kind=1):=hk
 clear hk
 generalize hf:KR a.ag (En.val b)=f
 have HF:Hid (KR a.ag (En.val b)=f):=hf
 clear hf
 go_enter Tryz.func265,Tryz.ntmps265
 go_wp2_with fail
 change Code.wp Tryz.prog _ _ _ (((w.alloc (.cells #[.int .i64 a.at_,.string a.pred,.slice ad a.ag.length ac] 219)).alloc (.cells (lp ⟨#[]⟩ (fm f 0)) 325)).alloc (.cells (lp a.pred (fm f 0)) 325))
 obtain⟨mb,ms,C3,Ev⟩:=Qw w (.cells #[.int .i64 a.at_,.string a.pred,.slice ad a.ag.length ac] 219) (.cells (lp ⟨#[]⟩ (fm f 0)) 325) (.cells (lp a.pred (fm f 0)) 325)
 generalize (((w.alloc (.cells #[.int .i64 a.at_,.string a.pred,.slice ad a.ag.length ac] 219)).alloc (.cells (lp ⟨#[]⟩ (fm f 0)) 325)).alloc (.cells (lp a.pred (fm f 0)) 325))=w0 at mb ms C3 Ev ⊢
 have mN:w0.heap[g]?=some (.cells (cI n X Y) 369 (0,0)):=by rw[mb.block _ mO];exact hg
 go_loopw [14] (fun iv wr=>∃k:Nat,k≤a.ag.length∧iv=.int .i64 k∧wr.heap[w.heap.size+1+1]?=some (.cells (lp a.pred (fm f k)) 325 (0,0))∧Kb [w.heap.size+1+1] w0 wr) (fun iv _=>a.ag.length-(intOf iv).toNat)
 case atStart=>exact⟨0,Nat.zero_le _,rfl,Ev,Kb.refl _ _⟩
 case round=>
  obtain⟨k,Cz,rfl,PI,fG⟩:=hrel
  have cE:=fG.size
  have bQ:wr.ownsRow 0 310 2 (.slice ad a.ag.length ac) a.ag.length (cl a.ag):=fG.row (ae ha mb) (fun q hq hm=>by
   simp only[List.mem_singleton]at hm
   have:=(World.ownsRow.lt ha q hq).2
   omega)
  have fV:wr.heap[w.heap.size+1]?=some (.cells (lp ⟨#[]⟩ (fm f 0)) 325 (0,0)):=fG.heap C3 (by simp only[List.mem_singleton];omega)
  have AL:wr.heap[g]?=some (.cells (cI n X Y) 369 (0,0)):=fG.heap mN (by simp only[List.mem_singleton];omega)
  have mw:Below w.heap.size w wr:=fG.aJ mb (by omega) (fun i hi=>by simp at hi;omega)
  have OK:w.heap.size+1+1<wr.heap.size:=by omega
  by_cases aE:k<a.ag.length
  · obtain⟨tg,rfl,lY,htc,vB⟩:=aD bQ (by omega)
    obtain⟨y0,y1⟩:=fe a.ag k aE
    have d0:=vB _ _ y0
    have d1:=vB _ _ y1
    have Lo:=HK.out _ (List.getElem_mem aE)
    have hfk:f k=En.dJ (En.val b) a.ag[k]:=by rw[←HF.out];simp[KR,List.getElem?_eq_getElem aE]
    generalize a.ag[k]=t at d0 d1 Lo hfk
    obtain⟨tk,tt⟩:=t
    simp only at d0 d1
    have gh:∀W,Below wr.heap.size wr W→Calls Tryz.prog 286 #[.pointer (some ⟨g,0,none⟩),.agg #[.int .i64 tk,.string tt]] W fun e w'=>e=.returned (.string (En.dJ (En.val b) ⟨tk,tt⟩))∧Below W.heap.size W w':=fun W hW=>CK W g n X Y b hb ⟨tk,tt⟩ Lo (by rw[hW.block _ (by omega)];exact AL)
    rw[←hfk]at gh
    generalize hv:f k=v at gh
    have HV:Hid (f k=v):=hv
    clear vB bQ Ev C3 y0 y1 Lo hfk AL hg mN hv fV
    go_wp2_with (go_at_call 286;refine(gh _ (by exact(Below.refl _ _).alloc (Nat.le_refl _) _)).mono ?_;rintro e w1 ⟨rfl,a8⟩;have fQ:Below wr.heap.size wr w1:=((Below.refl _ _).alloc (Nat.le_refl _) _).trans (a8.mono (by simp));have Rq:w1.heap[w.heap.size+1+1]?=some (.cells (lp a.pred (fm f k)) 325 (0,0)):=(by rw[fQ.block _ OK];exact PI);have kA:=fQ.size;have TH:w.heap.size+1+1<w1.heap.size:=(by omega);have fx:(w1.cell? ⟨w.heap.size+1+1,1+k,none⟩)=some (.string (fm f k k)):=(by rw[cell_of_row _ _ _ _ _ _ Rq];exact OI (by omega));have fz:w1.frozen? ⟨w.heap.size+1+1,1+k,none⟩=false:=(by simp[World.frozen?,Rq]);have acH:Hid (w1.heap[w.heap.size+1+1]?=some (.cells (lp a.pred (fm f k)) 325 (0,0))):=Rq;clear a8 gh Rq)
    have rl:=an w1 acH.out (1+k) (.string v)
    rw[On (by omega) HV.out]at rl
    go_roundw
    case rel=>exact⟨k+1,by omega,by go_num,rl,(fG.below fQ).trans (Kb.setCell w1 ⟨w.heap.size+1+1,1+k,none⟩ (.string v))⟩
    case measure=>simp[intOf];omega
  · have adi:k=a.ag.length:=by omega
    subst adi
    have q0:wr.cell? ⟨w.heap.size+1+1,0,none⟩=some (.string a.pred):=by rw[cell_of_row _ _ _ _ _ _ PI];rfl
    have q1:wr.cell? ⟨w.heap.size+1+1,1,none⟩=some (.string (fm f a.ag.length 0)):=by rw[cell_of_row _ _ _ _ _ _ PI];rfl
    have q2:wr.cell? ⟨w.heap.size+1+1,2,none⟩=some (.string (fm f a.ag.length 1)):=by rw[cell_of_row _ _ _ _ _ _ PI];rfl
    have q3:wr.cell? ⟨w.heap.size+1+1,3,none⟩=some (.string (fm f a.ag.length 2)):=by rw[cell_of_row _ _ _ _ _ _ PI];rfl
    have r0:wr.cell? ⟨w.heap.size+1,0,none⟩=some (.string ⟨#[]⟩):=by rw[cell_of_row _ _ _ _ _ _ fV];rfl
    have r1:wr.cell? ⟨w.heap.size+1,1,none⟩=some (.string ⟨#[]⟩):=by rw[cell_of_row _ _ _ _ _ _ fV];rfl
    have r2:wr.cell? ⟨w.heap.size+1,2,none⟩=some (.string ⟨#[]⟩):=by rw[cell_of_row _ _ _ _ _ _ fV];rfl
    have r3:wr.cell? ⟨w.heap.size+1,3,none⟩=some (.string ⟨#[]⟩):=by rw[cell_of_row _ _ _ _ _ _ fV];rfl
    have rf:∀o,wr.frozen? ⟨w.heap.size+1,o,none⟩=false:=fun o=>by simp[World.frozen?,fV]
    have sQ:Hid (wr.heap[w.heap.size+1]?=some (.cells (lp ⟨#[]⟩ (fm f 0)) 325 (0,0))):=fV
    have XE:w.heap.size+1<wr.heap.size:=by omega
    clear PI bQ Ev C3 fV AL hg mN
    go_wp2_with fail
    change bodyPost Tryz.prog _ _ _ _ (NY wr (w.heap.size+1) a.pred (fm f a.ag.length))
    obtain⟨hu,PH⟩:=K4 (pr:=a.pred) (F:=fm f a.ag.length) sQ.out
    generalize NY wr (w.heap.size+1) a.pred (fm f a.ag.length)=wz at hu PH ⊢
    have RK:Below w.heap.size w wz:=PH.aJ mw (by omega) (fun i hi=>by simp at hi;omega)
    have zc:=ab hu
    have hwz:=lt_of_heap hu
    refine bodyPost_ret (v:=.agg (lp a.pred (fm f a.ag.length))) ?_ rfl ⟨RK,rfl⟩
    unfold lp at zc ⊢
    simp[results,Tryz.results265,go_sem,zc]
end
end Go.Proofs.YtdmicblafmhflaaGreatDoor
