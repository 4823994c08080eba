
import Derived.Test.YtapfankgdkdkgaaGreatDoorMb19
import Derived.Test.YtapfankgdkdkgaaGreatDoorMb20
namespace Go.Proofs.YtapfankgdkdkgaaGreatDoor.AM
open Go.RowKit
set_option linter.unusedVariables false
set_option maxRecDepth 20000
def qvw (n:Nat):List LC:=[]
def q5g (n:Nat) (a1:List UInt8):Option (((List UInt8)×((List UInt8)×((List (List UInt8×((Int)×((Int)×((Int)×(List UInt8×(List UInt8)))))))×((List (List UInt8×(List UInt8)))×((List (List UInt8×((Int)×((Int)×((Int)×(List UInt8×(List UInt8)))))))×(List ((Int)×((Int)×((Int)×(List UInt8×(List UInt8×((Int)×((Int)×((Int)×(List UInt8×(List UInt8))))))))))))))))×(Int×(Int))) :=
 quf (qcw n a1) (fun (r1:(Unit×(IV))×(((List UInt8)×((List UInt8)×(Unit×(Unit×(Unit×(Unit×(Int×(Int×((List UInt8)×(Unit×(Unit)))))))))))×((List (List UInt8×(List (List UInt8)×((Bool)×(IV)))))×((List ((List UInt8×(List UInt8×((Int)×((Int)×((Int)×(List UInt8×(List UInt8)))))))×((Int)×(Int))))×(Unit))))×((List (List UInt8×((Int)×((Int)×((Int)×(List UInt8×(List UInt8)))))))×((List (List UInt8×(List UInt8)))×((List (List UInt8×((Int)×((Int)×((Int)×(List UInt8×(List UInt8)))))))×((List ((Int)×((Int)×((Int)×(List UInt8×(List UInt8×((Int)×((Int)×((Int)×(List UInt8×(List UInt8)))))))))))×(Unit))))))=>(q44 (Subtype.val r1.1.2)).bind fun (hb2:Bool)=>(bif !hb2 then (qz1 r1.1.2).bind fun (r3:Int×(Int))=>some ((([]:List UInt8),(([]:List UInt8),([],([],([],[]))))),r3) else some ((r1.2.1.1.1,(r1.2.1.1.2.1,(r1.2.2.1,(r1.2.2.2.1,(r1.2.2.2.2.1,r1.2.2.2.2.2.1))))),(r1.2.1.1.2.2.2.2.2.2.1,(0:Int))))) ((qgd n a1).bind fun (r4:IV×(IV))=>(q44 (Subtype.val r4.2)).bind fun (hb5:Bool)=>(bif !hb5 then (qz1 r4.2).bind fun (r6:Int×(Int))=>some ((([]:List UInt8),(([]:List UInt8),([],([],([],[]))))),r6) else none))
def q6o (n:Nat):FC:={ f:=16,args:=[.one (.c (.d .str))],res:=.tup [.agg [.d .str,.d .str,.d (.lst (.prod .str (.prod (.int .i64) (.prod (.int .i64) (.prod (.int .i64) (.prod .str .str)))))),.d (.lst (.prod .str .str)),.d (.lst (.prod .str (.prod (.int .i64) (.prod (.int .i64) (.prod (.int .i64) (.prod .str .str)))))),.d (.lst (.prod (.int .i64) (.prod (.int .i64) (.prod (.int .i64) (.prod .str (.prod .str (.prod (.int .i64) (.prod (.int .i64) (.prod (.int .i64) (.prod .str .str))))))))))],.c (.d (.int .i64)),.c (.d (.int .i64))],F:=fun p=>q5g n p }
def j5c (n:Nat):List FC:=[jf6 (q2o n) [] [(44,11),(1044,1011),(2044,2011),(3044,3011)] [(29,11),(26,1011),(27,2011)],jek,q8d n]
theorem j8y (n:Nat) {G:World->Prop} (hG:Know Inv G) : ∀c∈j5c n,q0w Tryz.prog G c/\q09 c.args=true:=List.forall_mem_cons.2 ⟨jd1 (qwp n G hG),List.forall_mem_cons.2 ⟨jru G hG,List.forall_mem_cons.2 ⟨j1s n G hG,(fun _ h=>by cases h)⟩⟩⟩
def j3s:q08:=[(5,[⟨28334198897235051184128,2^72,0⟩,⟨13469017440257*2^34,2^75,1⟩,⟨107752139522049*2^34,2^78,3⟩,⟨862017116176385*2^34,2^81,7⟩,⟨116056878683004417951694848,2^84,0⟩,⟨55169095435288577*2^34,2^87,16⟩,⟨441352763482308609*2^34,2^90,48⟩,⟨3530822107858468865*2^34,2^93,112⟩,⟨63975078001172785699595083761656459625154462486552420152755668189454205310145231665361909728988203846127464659584632570591882863147988612686098388825205459952577415643361923577194176540294441230030204330554816361762580036855539214046979042325413363925334353010373052454148503153882388735634505632984823914257227860927385419819545690843044525663354377814301668391133744615720844253665637376428345383085805882352021463613448566615853155714661322016337867450806562938145655069565680061966678409365314206017397805514718192935986593406391324337309512466383195727130788302946512340244429621911298897954896825665961532052337379856960518872276773097627748011167723302515212826264489956188759331178405026965916060520460010675700491799418752566584212753114833955042623952495244446606691991286833485170775938613069576516635512464114091057369147037248478858510924793020482280934356656627542436445151545759530299686486874566919193340452192166397152647131286179499825736482847408367404442387092685458094123574769780442370636570635186748030706898742036218878368049810931042713657238527157684785650646588984110156142607753344014264965311306895995445871126701092255179379452262992958430755870350944801606234644772930007415765758727811336074316555096701945325116458828129664619723992579897789605312484334322215157666843607578793756371580130920214739434093409529372723099281400835550219551118344498052710376393548457573821733829868970366279183608651366990059185723245772591829078895289395480089452627631551848570139613168342000649128549142914647579858599058426593711659660114293554671553345697623569953373402756383904396699819934755063209258219985046632890132163094516253799540889779712458662518126035170975059443979520809580398357678880052443106687024664064053298265031552090599964126695733730172391253125913919661980921284841465816997953139127005393825708689362230605955623354801402692345866845887237289181488062488781954609689126408130295766596393869390434411592695853114403934956877843818801462825714440271603816339076012480983577321878710139385107146932348864306974253321189501249421224461187792674631231308095129495683639475398606215788535894605407471870420883857091208036746525653757999344034426463921356486661732436055374422719246551646470150051551038948545812619424376099243902843857446806039479306179861353096289952016886050986935705636897246065879281119692154342240075006643032671968842572441423024216979651629730437770184092748500658724415741277097505364551909406178898760450852224071881519788310640830300635308982002732587773381496087038957290339791930679123606405727191795367237488684160822662807581390954065273399160134750470192531808209176994051395371460370223618158210615140839448487454387038131805806747260304611107406016,128,15⟩,⟨9903520314283042199192996864,512,511⟩,⟨24576,4096,1023⟩])]
theorem jma:drB j3s (q00 Tryz.f16)=true:=by kernel_rfl
theorem jpk (n:Nat) : ∀a,(q6o n).F a=main Tryz.prog 32 (j5c n) (qvw n) j3s (q00 Tryz.f16) [.cell 2 35,.tmp 3,.tmp 4] (q6o n).args (q6o n).res a:=by intro a;kernel_rfl
theorem qop (n:Nat):q0c Inv Tryz.prog (q6o n):=fun G hG=>⟨⟨by kernel_rfl,fun a r h=>q03 (c:=q00 Tryz.f16) Tryz.func16 (by kernel_rfl) (by kernel_rfl) (Nat.le_of_ble_eq_true (by kernel_rfl)) hG.st (by kernel_rfl) (rs:=[.cell 2 35,.tmp 3,.tmp 4]) (by kernel_rfl) (j8y n hG) (lts:=qvw n) (fun F hF hFG=>have hK:Know Inv F.G:=hFG ▸ hG;(q02 fun j L h1 h2 h3=>absurd h2 (Nat.not_lt.2 (Nat.le_trans (by decide +kernel) h1)))) jma ((jpk n a).symm.trans h)⟩,rfl⟩
def qvc (n:Nat):List LC:=[]
def j0p (n:Nat) (a1:List UInt8) (a2:List UInt8):Option (Int×(Int×(Bool))) :=
 quf (qcw n a1) (fun (r1:(Unit×(IV))×(((List UInt8)×((List UInt8)×(Unit×(Unit×(Unit×(Unit×(Int×(Int×((List UInt8)×(Unit×(Unit)))))))))))×((List (List UInt8×(List (List UInt8)×((Bool)×(IV)))))×((List ((List UInt8×(List UInt8×((Int)×((Int)×((Int)×(List UInt8×(List UInt8)))))))×((Int)×(Int))))×(Unit))))×((List (List UInt8×((Int)×((Int)×((Int)×(List UInt8×(List UInt8)))))))×((List (List UInt8×(List UInt8)))×((List (List UInt8×((Int)×((Int)×((Int)×(List UInt8×(List UInt8)))))))×((List ((Int)×((Int)×((Int)×(List UInt8×(List UInt8×((Int)×((Int)×((Int)×(List UInt8×(List UInt8)))))))))))×(Unit))))))=>(q44 (Subtype.val r1.1.2)).bind fun (hb2:Bool)=>(bif !hb2 then some ((0:Int),((0:Int),false)) else jkg (q0f (.prod .str (.prod .str (.prod (.int .i64) (.prod (.int .i64) (.prod (.int .i64) (.prod .str .str)))))) (([114,101,113,117,105,114,101]:List UInt8),(a2,((0:Int),((0:Int),((0:Int),(([]:List UInt8),([]:List UInt8))))))) r1.2.1.2.2.1) ((0:Int),(0:Int)) fun (y3:(Int)×(Int)) (hb4:Bool)=>some (y3.1,(y3.2,hb4)))) ((qgd n a1).bind fun (r5:IV×(IV))=>(q44 (Subtype.val r5.2)).bind fun (hb6:Bool)=>(bif !hb6 then some ((0:Int),((0:Int),false)) else none))
def qc0 (n:Nat):FC:={ f:=19,args:=[.one (.c (.d .str)),.one (.c (.d .str))],res:=.tup [.c (.d (.int .i64)),.c (.d (.int .i64)),.c (.d .bool)],F:=fun p=>j0p n p.1 p.2 }
def j4m (n:Nat):List FC:=[jf6 (q2o n) [] [(44,13),(1044,1013),(2044,2013),(3044,3013)] [(29,13),(26,1013),(27,2013)],q8d n]
theorem j7s (n:Nat) {G:World->Prop} (hG:Know Inv G) : ∀c∈j4m n,q0w Tryz.prog G c/\q09 c.args=true:=List.forall_mem_cons.2 ⟨jd1 (qwp n G hG),List.forall_mem_cons.2 ⟨j1s n G hG,(fun _ h=>by cases h)⟩⟩
def j5q:q08:=[(5,[⟨864691128455135235*2^27,2^84,0⟩,⟨3530822107858468865*2^28,2^87,1⟩,⟨55340232221128654851*2^27,2^90,0⟩,⟨225972614902942007297*2^28,2^93,4⟩,⟨442721857769029238785*2^30,2^96,0⟩,⟨154742504910672534362415104,4096,3⟩,⟨9903520314283042199193190400,32768,47⟩,⟨79228162514264337593545523200,2^18,127⟩])]
theorem jp1:drB j5q (q00 Tryz.f19)=true:=by kernel_rfl
theorem jkc (n:Nat) : ∀a,(qc0 n).F a=main Tryz.prog 33 (j4m n) (qvc n) j5q (q00 Tryz.f19) [.tmp 4,.tmp 5,.tmp 6] (qc0 n).args (qc0 n).res a:=by intro a;kernel_rfl
theorem jo3 (n:Nat):q0c Inv Tryz.prog (qc0 n):=fun G hG=>⟨⟨by kernel_rfl,fun a r h=>q03 (c:=q00 Tryz.f19) Tryz.func19 (by kernel_rfl) (by kernel_rfl) (Nat.le_of_ble_eq_true (by kernel_rfl)) hG.st (by kernel_rfl) (rs:=[.tmp 4,.tmp 5,.tmp 6]) (by kernel_rfl) (j7s n hG) (lts:=qvc n) (fun F hF hFG=>have hK:Know Inv F.G:=hFG ▸ hG;(q02 fun j L h1 h2 h3=>absurd h2 (Nat.not_lt.2 (Nat.le_trans (by decide +kernel) h1)))) jp1 ((jkc n a).symm.trans h)⟩,rfl⟩
def j2r (n:Nat):List LC:=[]
def qfc (n:Nat) (a1:List (List UInt8)):Option (List UInt8) :=
 (qe8 a1 ([32]:List UInt8)).bind fun (r1:List UInt8)=>(q6q r1 ([10]:List UInt8)).bind fun (s2:List UInt8)=>some s2
def qhz (n:Nat):FC:={ f:=59,args:=[.one (.c (.d (.lst .str)))],res:=.one (.c (.d .str)),F:=fun p=>qfc n p }
def jby (n:Nat):List FC:=[qy5]
theorem jgg (n:Nat) {G:World->Prop} (hG:Know Inv G) : ∀c∈jby n,q0w Tryz.prog G c/\q09 c.args=true:=List.forall_mem_cons.2 ⟨jat G hG,(fun _ h=>by cases h)⟩
def jbz:q08:=[]
theorem jrw:drB jbz (q00 Tryz.f59)=true:=by kernel_rfl
theorem jr7 (n:Nat) : ∀a,(qhz n).F a=main Tryz.prog 6 (jby n) (j2r n) jbz (q00 Tryz.f59) [.tmp 2] (qhz n).args (qhz n).res a:=by intro a;kernel_rfl
theorem jqd (n:Nat):q0c Inv Tryz.prog (qhz n):=fun G hG=>⟨⟨by kernel_rfl,fun a r h=>q03 (c:=q00 Tryz.f59) Tryz.func59 (by kernel_rfl) (by kernel_rfl) (Nat.le_of_ble_eq_true (by kernel_rfl)) hG.st (by kernel_rfl) (rs:=[.tmp 2]) (by kernel_rfl) (jgg n hG) (lts:=j2r n) (fun F hF hFG=>have hK:Know Inv F.G:=hFG ▸ hG;(q02 fun j L h1 h2 h3=>absurd h2 (Nat.not_lt.2 (Nat.le_trans (by decide +kernel) h1)))) jrw ((jr7 n a).symm.trans h)⟩,rfl⟩
def qvk (n:Nat):List LC:=[]
def jdm (n:Nat) (a1:Int×(Int×(Int×((List UInt8)×((List UInt8)×(Int×(Int×(Int×((List UInt8)×(List UInt8)))))))))):Option (List UInt8) :=
 (bif (decide (a1.1=a1.2.2.2.2.2.1)&&(decide (a1.2.1=a1.2.2.2.2.2.2.1)&&(decide (a1.2.2.1=a1.2.2.2.2.2.2.2.1)&&(decide (a1.2.2.2.1=a1.2.2.2.2.2.2.2.2.1)&&(decide (a1.2.2.2.2.1=a1.2.2.2.2.2.2.2.2.2)&&true))))) then (qam n (a1.1,(a1.2.1,(a1.2.2.1,(a1.2.2.2.1,a1.2.2.2.2.1))))).bind fun (r1:List UInt8)=>some r1 else (qam n (a1.1,(a1.2.1,(a1.2.2.1,(a1.2.2.2.1,a1.2.2.2.2.1))))).bind fun (r2:List UInt8)=>(q6q ([91]:List UInt8) r2).bind fun (s3:List UInt8)=>(q6q s3 ([44,32]:List UInt8)).bind fun (s4:List UInt8)=>(qam n a1.2.2.2.2.2).bind fun (r5:List UInt8)=>(q6q s4 r5).bind fun (s6:List UInt8)=>(q6q s6 ([93]:List UInt8)).bind fun (s7:List UInt8)=>some s7)
def qbf (n:Nat):FC:={ f:=60,args:=[.one (.agg [.d (.int .i64),.d (.int .i64),.d (.int .i64),.d .str,.d .str,.d (.int .i64),.d (.int .i64),.d (.int .i64),.d .str,.d .str])],res:=.one (.c (.d .str)),F:=fun p=>jdm n p }
def j28 (n:Nat):List FC:=[q9m n]
theorem j7w (n:Nat) {G:World->Prop} (hG:Know Inv G) : ∀c∈j28 n,q0w Tryz.prog G c/\q09 c.args=true:=List.forall_mem_cons.2 ⟨qzn n G hG,(fun _ h=>by cases h)⟩
def j5x:q08:=[(3,[⟨51539607576,2^33,0⟩,⟨420906795024,2^36,1⟩,⟨49*2^36,2^39,3⟩,⟨49*2^39,2^42,7⟩,⟨49*2^42,2^45,15⟩,⟨1688849860263960,2^48,0⟩,⟨13792273858822160,2^51,32⟩,⟨49*2^51,2^54,103⟩,⟨25089*2^45,2^57,255⟩,⟨49*2^57,2^60,511⟩,⟨1152921504606847360,64,1023⟩]),(1000003,[])]
theorem jj8:drB j5x (q00 Tryz.f60)=true:=by kernel_rfl
theorem jpf (n:Nat) : ∀a,(qbf n).F a=main Tryz.prog 21 (j28 n) (qvk n) j5x (q00 Tryz.f60) [.tmp 2] (qbf n).args (qbf n).res a:=by intro a;kernel_rfl
theorem joc (n:Nat):q0c Inv Tryz.prog (qbf n):=fun G hG=>⟨⟨by kernel_rfl,fun a r h=>q03 (c:=q00 Tryz.f60) Tryz.func60 (by kernel_rfl) (by kernel_rfl) (Nat.le_of_ble_eq_true (by kernel_rfl)) hG.st (by kernel_rfl) (rs:=[.tmp 2]) (by kernel_rfl) (j7w n hG) (lts:=qvk n) (fun F hF hFG=>have hK:Know Inv F.G:=hFG ▸ hG;(q02 fun j L h1 h2 h3=>absurd h2 (Nat.not_lt.2 (Nat.le_trans (by decide +kernel) h1)))) jj8 ((jpf n a).symm.trans h)⟩,rfl⟩
@[reducible] def qnu:SSt:=⟨[(3,.one (.c (.row 16))),(81,.one (.c (.d (.lst (.prod (.int .i64) (.prod (.int .i64) (.prod (.int .i64) (.prod .str (.prod .str (.prod (.int .i64) (.prod (.int .i64) (.prod (.int .i64) (.prod .str .str))))))))))))),(82,.one (.c (.d (.int .i64)))),(83,.one (.c (.d (.int .i64))))],[],[(16,⟨9,false,.str⟩)]⟩
@[reducible] def qdh:List (Exit×SSt):=[(.exit 6,⟨[(3,.one (.c (.row 16)))],[],[(16,⟨9,false,.str⟩)]⟩)]
def jxv (n:Nat) (rec:(List ((Int)×((Int)×((Int)×(List UInt8×(List UInt8×((Int)×((Int)×((Int)×(List UInt8×(List UInt8)))))))))))->Int->Int->(List (List UInt8))->Option ((Unit×(Unit))×(Unit)×((List (List UInt8))×(Unit)))) (a1:List ((Int)×((Int)×((Int)×(List UInt8×(List UInt8×((Int)×((Int)×((Int)×(List UInt8×(List UInt8))))))))))) (a2:Int) (a3:Int) (a4:List (List UInt8)):Option ((Unit×(Unit))×(Unit)×((List (List UInt8))×(Unit))) :=
 (bif decide (a3<a2) then (q0z a1 a3).bind fun (x21:(Int)×((Int)×((Int)×(List UInt8×(List UInt8×((Int)×((Int)×((Int)×(List UInt8×(List UInt8))))))))))=>(jdm n x21).bind fun (r22:List UInt8)=>(qfc n ([([114,101,116,114,97,99,116]:List UInt8),r22]:List (List UInt8))).bind fun (r23:List UInt8)=>(q4q 16 a4 ([r23]:List (List UInt8))).bind fun (l24:List (List UInt8))=>q05 (IntKind.wrap .i64 (a3+(1:Int))) fun (n25:Int)=>rec a1 a2 n25 l24 else some ((((),()),((),(a4,())))))
def jbd (n:Nat) (rec:pSt qnu->Option (q0d qdh)) (p:pSt qnu):Option (q0d qdh):=jxv n (fun a1 a2 a3 a4=>rec (((),(a1,(a2,(a3,())))),((),(a4,())))) p.1.2.1 p.1.2.2.1 p.1.2.2.2.1 p.2.2.1
def qvt (n m:Nat) (a1:List ((Int)×((Int)×((Int)×(List UInt8×(List UInt8×((Int)×((Int)×((Int)×(List UInt8×(List UInt8))))))))))) (a2:Int) (a3:Int) (a4:List (List UInt8)):Option ((Unit×(Unit))×(Unit)×((List (List UInt8))×(Unit))):=q0e (jbd n) m (((),(a1,(a2,(a3,())))),((),(a4,())))
def jki (n:Nat):LC:={ sh:=qnu,outs:=qdh,F:=q0e (jbd n) n }
@[reducible] def qnm:SSt:=⟨[(1,.one (.c (.box 1 0))),(3,.one (.c (.row 16))),(63,.one (.c (.d (.lst (.prod .str (.prod (.int .i64) (.prod (.int .i64) (.prod (.int .i64) (.prod .str .str))))))))),(64,.one (.c (.d (.int .i64)))),(65,.one (.c (.d (.int .i64))))],[(1,(35,[.d .str,.d .str,.d (.lst (.prod .str (.prod (.int .i64) (.prod (.int .i64) (.prod (.int .i64) (.prod .str .str)))))),.d (.lst (.prod .str .str)),.d (.lst (.prod .str (.prod (.int .i64) (.prod (.int .i64) (.prod (.int .i64) (.prod .str .str)))))),.d (.lst (.prod (.int .i64) (.prod (.int .i64) (.prod (.int .i64) (.prod .str (.prod .str (.prod (.int .i64) (.prod (.int .i64) (.prod (.int .i64) (.prod .str .str))))))))))]))],[(16,⟨9,false,.str⟩)]⟩
@[reducible] def qdv:List (Exit×SSt):=[(.exit 4,⟨[(1,.one (.c (.box 1 0))),(3,.one (.c (.row 16)))],[(1,(35,[.d .str,.d .str,.d (.lst (.prod .str (.prod (.int .i64) (.prod (.int .i64) (.prod (.int .i64) (.prod .str .str)))))),.d (.lst (.prod .str .str)),.d (.lst (.prod .str (.prod (.int .i64) (.prod (.int .i64) (.prod (.int .i64) (.prod .str .str)))))),.d (.lst (.prod (.int .i64) (.prod (.int .i64) (.prod (.int .i64) (.prod .str (.prod .str (.prod (.int .i64) (.prod (.int .i64) (.prod (.int .i64) (.prod .str .str))))))))))]))],[(16,⟨9,false,.str⟩)]⟩)]
def jwd (n:Nat) (rec:(List (List UInt8×((Int)×((Int)×((Int)×(List UInt8×(List UInt8)))))))->Int->Int->(List UInt8)->(List UInt8)->(List (List UInt8×((Int)×((Int)×((Int)×(List UInt8×(List UInt8)))))))->(List (List UInt8×(List UInt8)))->(List (List UInt8×((Int)×((Int)×((Int)×(List UInt8×(List UInt8)))))))->(List ((Int)×((Int)×((Int)×(List UInt8×(List UInt8×((Int)×((Int)×((Int)×(List UInt8×(List UInt8)))))))))))->(List (List UInt8))->Option ((Unit×(Unit×(Unit)))×(((List UInt8)×((List UInt8)×((List (List UInt8×((Int)×((Int)×((Int)×(List UInt8×(List UInt8)))))))×((List (List UInt8×(List UInt8)))×((List (List UInt8×((Int)×((Int)×((Int)×(List UInt8×(List UInt8)))))))×(List ((Int)×((Int)×((Int)×(List UInt8×(List UInt8×((Int)×((Int)×((Int)×(List UInt8×(List UInt8))))))))))))))))×(Unit))×((List (List UInt8))×(Unit)))) (a1:List (List UInt8×((Int)×((Int)×((Int)×(List UInt8×(List UInt8))))))) (a2:Int) (a3:Int) (a4:List UInt8) (a5:List UInt8) (a6:List (List UInt8×((Int)×((Int)×((Int)×(List UInt8×(List UInt8))))))) (a7:List (List UInt8×(List UInt8))) (a8:List (List UInt8×((Int)×((Int)×((Int)×(List UInt8×(List UInt8))))))) (a9:List ((Int)×((Int)×((Int)×(List UInt8×(List UInt8×((Int)×((Int)×((Int)×(List UInt8×(List UInt8))))))))))) (a10:List (List UInt8)):Option ((Unit×(Unit×(Unit)))×(((List UInt8)×((List UInt8)×((List (List UInt8×((Int)×((Int)×((Int)×(List UInt8×(List UInt8)))))))×((List (List UInt8×(List UInt8)))×((List (List UInt8×((Int)×((Int)×((Int)×(List UInt8×(List UInt8)))))))×(List ((Int)×((Int)×((Int)×(List UInt8×(List UInt8×((Int)×((Int)×((Int)×(List UInt8×(List UInt8))))))))))))))))×(Unit))×((List (List UInt8))×(Unit))) :=
 (bif decide (a3<a2) then (q0z a1 a3).bind fun (x15:List UInt8×((Int)×((Int)×((Int)×(List UInt8×(List UInt8))))))=>(qam n x15.2).bind fun (r16:List UInt8)=>(qfc n ([([101,120,99,108,117,100,101]:List UInt8),x15.1,r16]:List (List UInt8))).bind fun (r17:List UInt8)=>(q4q 16 a10 ([r17]:List (List UInt8))).bind fun (l18:List (List UInt8))=>q05 (IntKind.wrap .i64 (a3+(1:Int))) fun (n19:Int)=>rec a1 a2 n19 a4 a5 a6 a7 a8 a9 l18 else some ((((),((),())),(((a4,(a5,(a6,(a7,(a8,a9))))),()),(a10,())))))
def j8p (n:Nat) (rec:pSt qnm->Option (q0d qdv)) (p:pSt qnm):Option (q0d qdv):=jwd n (fun a1 a2 a3 a4 a5 a6 a7 a8 a9 a10=>rec (((),((),(a1,(a2,(a3,()))))),(((a4,(a5,(a6,(a7,(a8,a9))))),()),(a10,())))) p.1.2.2.1 p.1.2.2.2.1 p.1.2.2.2.2.1 p.2.1.1.1 p.2.1.1.2.1 p.2.1.1.2.2.1 p.2.1.1.2.2.2.1 p.2.1.1.2.2.2.2.1 p.2.1.1.2.2.2.2.2 p.2.2.1
def qw1 (n m:Nat) (a1:List (List UInt8×((Int)×((Int)×((Int)×(List UInt8×(List UInt8))))))) (a2:Int) (a3:Int) (a4:List UInt8) (a5:List UInt8) (a6:List (List UInt8×((Int)×((Int)×((Int)×(List UInt8×(List UInt8))))))) (a7:List (List UInt8×(List UInt8))) (a8:List (List UInt8×((Int)×((Int)×((Int)×(List UInt8×(List UInt8))))))) (a9:List ((Int)×((Int)×((Int)×(List UInt8×(List UInt8×((Int)×((Int)×((Int)×(List UInt8×(List UInt8))))))))))) (a10:List (List UInt8)):Option ((Unit×(Unit×(Unit)))×(((List UInt8)×((List UInt8)×((List (List UInt8×((Int)×((Int)×((Int)×(List UInt8×(List UInt8)))))))×((List (List UInt8×(List UInt8)))×((List (List UInt8×((Int)×((Int)×((Int)×(List UInt8×(List UInt8)))))))×(List ((Int)×((Int)×((Int)×(List UInt8×(List UInt8×((Int)×((Int)×((Int)×(List UInt8×(List UInt8))))))))))))))))×(Unit))×((List (List UInt8))×(Unit))):=q0e (j8p n) m (((),((),(a1,(a2,(a3,()))))),(((a4,(a5,(a6,(a7,(a8,a9))))),()),(a10,())))
def jmt (n:Nat):LC:={ sh:=qnm,outs:=qdv,F:=q0e (j8p n) n }
@[reducible] def qo0:SSt:=⟨[(1,.one (.c (.box 1 0))),(3,.one (.c (.row 16))),(46,.one (.c (.d (.lst (.prod .str .str))))),(47,.one (.c (.d (.int .i64)))),(48,.one (.c (.d (.int .i64))))],[(1,(35,[.d .str,.d .str,.d (.lst (.prod .str (.prod (.int .i64) (.prod (.int .i64) (.prod (.int .i64) (.prod .str .str)))))),.d (.lst (.prod .str .str)),.d (.lst (.prod .str (.prod (.int .i64) (.prod (.int .i64) (.prod (.int .i64) (.prod .str .str)))))),.d (.lst (.prod (.int .i64) (.prod (.int .i64) (.prod (.int .i64) (.prod .str (.prod .str (.prod (.int .i64) (.prod (.int .i64) (.prod (.int .i64) (.prod .str .str))))))))))]))],[(16,⟨9,false,.str⟩)]⟩
@[reducible] def qcv:List (Exit×SSt):=[(.exit 2,⟨[(1,.one (.c (.box 1 0))),(3,.one (.c (.row 16)))],[(1,(35,[.d .str,.d .str,.d (.lst (.prod .str (.prod (.int .i64) (.prod (.int .i64) (.prod (.int .i64) (.prod .str .str)))))),.d (.lst (.prod .str .str)),.d (.lst (.prod .str (.prod (.int .i64) (.prod (.int .i64) (.prod (.int .i64) (.prod .str .str)))))),.d (.lst (.prod (.int .i64) (.prod (.int .i64) (.prod (.int .i64) (.prod .str (.prod .str (.prod (.int .i64) (.prod (.int .i64) (.prod (.int .i64) (.prod .str .str))))))))))]))],[(16,⟨9,false,.str⟩)]⟩)]
def jxc (n:Nat) (rec:(List (List UInt8×(List UInt8)))->Int->Int->(List UInt8)->(List UInt8)->(List (List UInt8×((Int)×((Int)×((Int)×(List UInt8×(List UInt8)))))))->(List (List UInt8×(List UInt8)))->(List (List UInt8×((Int)×((Int)×((Int)×(List UInt8×(List UInt8)))))))->(List ((Int)×((Int)×((Int)×(List UInt8×(List UInt8×((Int)×((Int)×((Int)×(List UInt8×(List UInt8)))))))))))->(List (List UInt8))->Option ((Unit×(Unit×(Unit)))×(((List UInt8)×((List UInt8)×((List (List UInt8×((Int)×((Int)×((Int)×(List UInt8×(List UInt8)))))))×((List (List UInt8×(List UInt8)))×((List (List UInt8×((Int)×((Int)×((Int)×(List UInt8×(List UInt8)))))))×(List ((Int)×((Int)×((Int)×(List UInt8×(List UInt8×((Int)×((Int)×((Int)×(List UInt8×(List UInt8))))))))))))))))×(Unit))×((List (List UInt8))×(Unit)))) (a1:List (List UInt8×(List UInt8))) (a2:Int) (a3:Int) (a4:List UInt8) (a5:List UInt8) (a6:List (List UInt8×((Int)×((Int)×((Int)×(List UInt8×(List UInt8))))))) (a7:List (List UInt8×(List UInt8))) (a8:List (List UInt8×((Int)×((Int)×((Int)×(List UInt8×(List UInt8))))))) (a9:List ((Int)×((Int)×((Int)×(List UInt8×(List UInt8×((Int)×((Int)×((Int)×(List UInt8×(List UInt8))))))))))) (a10:List (List UInt8)):Option ((Unit×(Unit×(Unit)))×(((List UInt8)×((List UInt8)×((List (List UInt8×((Int)×((Int)×((Int)×(List UInt8×(List UInt8)))))))×((List (List UInt8×(List UInt8)))×((List (List UInt8×((Int)×((Int)×((Int)×(List UInt8×(List UInt8)))))))×(List ((Int)×((Int)×((Int)×(List UInt8×(List UInt8×((Int)×((Int)×((Int)×(List UInt8×(List UInt8))))))))))))))))×(Unit))×((List (List UInt8))×(Unit))) :=
 (bif decide (a3<a2) then (q0z a1 a3).bind fun (x10:List UInt8×(List UInt8))=>(qfc n ([([114,101,112,108,97,99,101]:List UInt8),x10.1,([61,62]:List UInt8),x10.2]:List (List UInt8))).bind fun (r11:List UInt8)=>(q4q 16 a10 ([r11]:List (List UInt8))).bind fun (l12:List (List UInt8))=>q05 (IntKind.wrap .i64 (a3+(1:Int))) fun (n13:Int)=>rec a1 a2 n13 a4 a5 a6 a7 a8 a9 l12 else some ((((),((),())),(((a4,(a5,(a6,(a7,(a8,a9))))),()),(a10,())))))
def j9o (n:Nat) (rec:pSt qo0->Option (q0d qcv)) (p:pSt qo0):Option (q0d qcv):=jxc n (fun a1 a2 a3 a4 a5 a6 a7 a8 a9 a10=>rec (((),((),(a1,(a2,(a3,()))))),(((a4,(a5,(a6,(a7,(a8,a9))))),()),(a10,())))) p.1.2.2.1 p.1.2.2.2.1 p.1.2.2.2.2.1 p.2.1.1.1 p.2.1.1.2.1 p.2.1.1.2.2.1 p.2.1.1.2.2.2.1 p.2.1.1.2.2.2.2.1 p.2.1.1.2.2.2.2.2 p.2.2.1
def qvu (n m:Nat) (a1:List (List UInt8×(List UInt8))) (a2:Int) (a3:Int) (a4:List UInt8) (a5:List UInt8) (a6:List (List UInt8×((Int)×((Int)×((Int)×(List UInt8×(List UInt8))))))) (a7:List (List UInt8×(List UInt8))) (a8:List (List UInt8×((Int)×((Int)×((Int)×(List UInt8×(List UInt8))))))) (a9:List ((Int)×((Int)×((Int)×(List UInt8×(List UInt8×((Int)×((Int)×((Int)×(List UInt8×(List UInt8))))))))))) (a10:List (List UInt8)):Option ((Unit×(Unit×(Unit)))×(((List UInt8)×((List UInt8)×((List (List UInt8×((Int)×((Int)×((Int)×(List UInt8×(List UInt8)))))))×((List (List UInt8×(List UInt8)))×((List (List UInt8×((Int)×((Int)×((Int)×(List UInt8×(List UInt8)))))))×(List ((Int)×((Int)×((Int)×(List UInt8×(List UInt8×((Int)×((Int)×((Int)×(List UInt8×(List UInt8))))))))))))))))×(Unit))×((List (List UInt8))×(Unit))):=q0e (j9o n) m (((),((),(a1,(a2,(a3,()))))),(((a4,(a5,(a6,(a7,(a8,a9))))),()),(a10,())))
def jo5 (n:Nat):LC:={ sh:=qo0,outs:=qcv,F:=q0e (j9o n) n }
@[reducible] def qmw:SSt:=⟨[(1,.one (.c (.box 1 0))),(3,.one (.c (.row 16))),(28,.one (.c (.d (.lst (.prod .str (.prod (.int .i64) (.prod (.int .i64) (.prod (.int .i64) (.prod .str .str))))))))),(29,.one (.c (.d (.int .i64)))),(30,.one (.c (.d (.int .i64))))],[(1,(35,[.d .str,.d .str,.d (.lst (.prod .str (.prod (.int .i64) (.prod (.int .i64) (.prod (.int .i64) (.prod .str .str)))))),.d (.lst (.prod .str .str)),.d (.lst (.prod .str (.prod (.int .i64) (.prod (.int .i64) (.prod (.int .i64) (.prod .str .str)))))),.d (.lst (.prod (.int .i64) (.prod (.int .i64) (.prod (.int .i64) (.prod .str (.prod .str (.prod (.int .i64) (.prod (.int .i64) (.prod (.int .i64) (.prod .str .str))))))))))]))],[(16,⟨9,false,.str⟩)]⟩
@[reducible] def qd8:List (Exit×SSt):=[(.exit 0,⟨[(1,.one (.c (.box 1 0))),(3,.one (.c (.row 16)))],[(1,(35,[.d .str,.d .str,.d (.lst (.prod .str (.prod (.int .i64) (.prod (.int .i64) (.prod (.int .i64) (.prod .str .str)))))),.d (.lst (.prod .str .str)),.d (.lst (.prod .str (.prod (.int .i64) (.prod (.int .i64) (.prod (.int .i64) (.prod .str .str)))))),.d (.lst (.prod (.int .i64) (.prod (.int .i64) (.prod (.int .i64) (.prod .str (.prod .str (.prod (.int .i64) (.prod (.int .i64) (.prod (.int .i64) (.prod .str .str))))))))))]))],[(16,⟨9,false,.str⟩)]⟩)]
def jvc (n:Nat) (rec:(List (List UInt8×((Int)×((Int)×((Int)×(List UInt8×(List UInt8)))))))->Int->Int->(List UInt8)->(List UInt8)->(List (List UInt8×((Int)×((Int)×((Int)×(List UInt8×(List UInt8)))))))->(List (List UInt8×(List UInt8)))->(List (List UInt8×((Int)×((Int)×((Int)×(List UInt8×(List UInt8)))))))->(List ((Int)×((Int)×((Int)×(List UInt8×(List UInt8×((Int)×((Int)×((Int)×(List UInt8×(List UInt8)))))))))))->(List (List UInt8))->Option ((Unit×(Unit×(Unit)))×(((List UInt8)×((List UInt8)×((List (List UInt8×((Int)×((Int)×((Int)×(List UInt8×(List UInt8)))))))×((List (List UInt8×(List UInt8)))×((List (List UInt8×((Int)×((Int)×((Int)×(List UInt8×(List UInt8)))))))×(List ((Int)×((Int)×((Int)×(List UInt8×(List UInt8×((Int)×((Int)×((Int)×(List UInt8×(List UInt8))))))))))))))))×(Unit))×((List (List UInt8))×(Unit)))) (a1:List (List UInt8×((Int)×((Int)×((Int)×(List UInt8×(List UInt8))))))) (a2:Int) (a3:Int) (a4:List UInt8) (a5:List UInt8) (a6:List (List UInt8×((Int)×((Int)×((Int)×(List UInt8×(List UInt8))))))) (a7:List (List UInt8×(List UInt8))) (a8:List (List UInt8×((Int)×((Int)×((Int)×(List UInt8×(List UInt8))))))) (a9:List ((Int)×((Int)×((Int)×(List UInt8×(List UInt8×((Int)×((Int)×((Int)×(List UInt8×(List UInt8))))))))))) (a10:List (List UInt8)):Option ((Unit×(Unit×(Unit)))×(((List UInt8)×((List UInt8)×((List (List UInt8×((Int)×((Int)×((Int)×(List UInt8×(List UInt8)))))))×((List (List UInt8×(List UInt8)))×((List (List UInt8×((Int)×((Int)×((Int)×(List UInt8×(List UInt8)))))))×(List ((Int)×((Int)×((Int)×(List UInt8×(List UInt8×((Int)×((Int)×((Int)×(List UInt8×(List UInt8))))))))))))))))×(Unit))×((List (List UInt8))×(Unit))) :=
 (bif decide (a3<a2) then (q0z a1 a3).bind fun (x4:List UInt8×((Int)×((Int)×((Int)×(List UInt8×(List UInt8))))))=>(qam n x4.2).bind fun (r5:List UInt8)=>(qfc n ([([114,101,113,117,105,114,101]:List UInt8),x4.1,r5]:List (List UInt8))).bind fun (r6:List UInt8)=>(q4q 16 a10 ([r6]:List (List UInt8))).bind fun (l7:List (List UInt8))=>q05 (IntKind.wrap .i64 (a3+(1:Int))) fun (n8:Int)=>rec a1 a2 n8 a4 a5 a6 a7 a8 a9 l7 else some ((((),((),())),(((a4,(a5,(a6,(a7,(a8,a9))))),()),(a10,())))))
def jb5 (n:Nat) (rec:pSt qmw->Option (q0d qd8)) (p:pSt qmw):Option (q0d qd8):=jvc n (fun a1 a2 a3 a4 a5 a6 a7 a8 a9 a10=>rec (((),((),(a1,(a2,(a3,()))))),(((a4,(a5,(a6,(a7,(a8,a9))))),()),(a10,())))) p.1.2.2.1 p.1.2.2.2.1 p.1.2.2.2.2.1 p.2.1.1.1 p.2.1.1.2.1 p.2.1.1.2.2.1 p.2.1.1.2.2.2.1 p.2.1.1.2.2.2.2.1 p.2.1.1.2.2.2.2.2 p.2.2.1
def qxg (n m:Nat) (a1:List (List UInt8×((Int)×((Int)×((Int)×(List UInt8×(List UInt8))))))) (a2:Int) (a3:Int) (a4:List UInt8) (a5:List UInt8) (a6:List (List UInt8×((Int)×((Int)×((Int)×(List UInt8×(List UInt8))))))) (a7:List (List UInt8×(List UInt8))) (a8:List (List UInt8×((Int)×((Int)×((Int)×(List UInt8×(List UInt8))))))) (a9:List ((Int)×((Int)×((Int)×(List UInt8×(List UInt8×((Int)×((Int)×((Int)×(List UInt8×(List UInt8))))))))))) (a10:List (List UInt8)):Option ((Unit×(Unit×(Unit)))×(((List UInt8)×((List UInt8)×((List (List UInt8×((Int)×((Int)×((Int)×(List UInt8×(List UInt8)))))))×((List (List UInt8×(List UInt8)))×((List (List UInt8×((Int)×((Int)×((Int)×(List UInt8×(List UInt8)))))))×(List ((Int)×((Int)×((Int)×(List UInt8×(List UInt8×((Int)×((Int)×((Int)×(List UInt8×(List UInt8))))))))))))))))×(Unit))×((List (List UInt8))×(Unit))):=q0e (jb5 n) m (((),((),(a1,(a2,(a3,()))))),(((a4,(a5,(a6,(a7,(a8,a9))))),()),(a10,())))
def joo (n:Nat):LC:={ sh:=qmw,outs:=qd8,F:=q0e (jb5 n) n }
def qcq (n:Nat):List LC:=[joo n,jo5 n,jmt n,jki n]
def jug (n:Nat) (a1:(List UInt8)×((List UInt8)×((List (List UInt8×((Int)×((Int)×((Int)×(List UInt8×(List UInt8)))))))×((List (List UInt8×(List UInt8)))×((List (List UInt8×((Int)×((Int)×((Int)×(List UInt8×(List UInt8)))))))×(List ((Int)×((Int)×((Int)×(List UInt8×(List UInt8×((Int)×((Int)×((Int)×(List UInt8×(List UInt8)))))))))))))))):Option (List UInt8) :=
 (qfc n ([([109,111,100,117,108,101]:List UInt8),a1.1]:List (List UInt8))).bind fun (r1:List UInt8)=>(bif !decide (a1.2.1=([]:List UInt8)) then (qfc n ([([103,111]:List UInt8),a1.2.1]:List (List UInt8))).bind fun (r2:List UInt8)=>(q4q 16 ([r1]:List (List UInt8)) ([r2]:List (List UInt8))).bind fun (l3:List (List UInt8))=>(qxg n n a1.2.2.1 ((List.length a1.2.2.1:Nat):Int) (0:Int) a1.1 a1.2.1 a1.2.2.1 a1.2.2.2.1 a1.2.2.2.2.1 a1.2.2.2.2.2 l3).bind fun (o9:(Unit×(Unit×(Unit)))×(((List UInt8)×((List UInt8)×((List (List UInt8×((Int)×((Int)×((Int)×(List UInt8×(List UInt8)))))))×((List (List UInt8×(List UInt8)))×((List (List UInt8×((Int)×((Int)×((Int)×(List UInt8×(List UInt8)))))))×(List ((Int)×((Int)×((Int)×(List UInt8×(List UInt8×((Int)×((Int)×((Int)×(List UInt8×(List UInt8))))))))))))))))×(Unit))×((List (List UInt8))×(Unit)))=>(qvu n n o9.2.1.1.2.2.2.1 ((List.length o9.2.1.1.2.2.2.1:Nat):Int) (0:Int) o9.2.1.1.1 o9.2.1.1.2.1 o9.2.1.1.2.2.1 o9.2.1.1.2.2.2.1 o9.2.1.1.2.2.2.2.1 o9.2.1.1.2.2.2.2.2 o9.2.2.1).bind fun (o14:(Unit×(Unit×(Unit)))×(((List UInt8)×((List UInt8)×((List (List UInt8×((Int)×((Int)×((Int)×(List UInt8×(List UInt8)))))))×((List (List UInt8×(List UInt8)))×((List (List UInt8×((Int)×((Int)×((Int)×(List UInt8×(List UInt8)))))))×(List ((Int)×((Int)×((Int)×(List UInt8×(List UInt8×((Int)×((Int)×((Int)×(List UInt8×(List UInt8))))))))))))))))×(Unit))×((List (List UInt8))×(Unit)))=>(qw1 n n o14.2.1.1.2.2.2.2.1 ((List.length o14.2.1.1.2.2.2.2.1:Nat):Int) (0:Int) o14.2.1.1.1 o14.2.1.1.2.1 o14.2.1.1.2.2.1 o14.2.1.1.2.2.2.1 o14.2.1.1.2.2.2.2.1 o14.2.1.1.2.2.2.2.2 o14.2.2.1).bind fun (o20:(Unit×(Unit×(Unit)))×(((List UInt8)×((List UInt8)×((List (List UInt8×((Int)×((Int)×((Int)×(List UInt8×(List UInt8)))))))×((List (List UInt8×(List UInt8)))×((List (List UInt8×((Int)×((Int)×((Int)×(List UInt8×(List UInt8)))))))×(List ((Int)×((Int)×((Int)×(List UInt8×(List UInt8×((Int)×((Int)×((Int)×(List UInt8×(List UInt8))))))))))))))))×(Unit))×((List (List UInt8))×(Unit)))=>(qvt n n o20.2.1.1.2.2.2.2.2 ((List.length o20.2.1.1.2.2.2.2.2:Nat):Int) (0:Int) o20.2.2.1).bind fun (o26:(Unit×(Unit))×(Unit)×((List (List UInt8))×(Unit)))=>(qe8 o26.2.2.1 ([]:List UInt8)).bind fun (r27:List UInt8)=>some r27 else (qxg n n a1.2.2.1 ((List.length a1.2.2.1:Nat):Int) (0:Int) a1.1 a1.2.1 a1.2.2.1 a1.2.2.2.1 a1.2.2.2.2.1 a1.2.2.2.2.2 ([r1]:List (List UInt8))).bind fun (o28:(Unit×(Unit×(Unit)))×(((List UInt8)×((List UInt8)×((List (List UInt8×((Int)×((Int)×((Int)×(List UInt8×(List UInt8)))))))×((List (List UInt8×(List UInt8)))×((List (List UInt8×((Int)×((Int)×((Int)×(List UInt8×(List UInt8)))))))×(List ((Int)×((Int)×((Int)×(List UInt8×(List UInt8×((Int)×((Int)×((Int)×(List UInt8×(List UInt8))))))))))))))))×(Unit))×((List (List UInt8))×(Unit)))=>(qvu n n o28.2.1.1.2.2.2.1 ((List.length o28.2.1.1.2.2.2.1:Nat):Int) (0:Int) o28.2.1.1.1 o28.2.1.1.2.1 o28.2.1.1.2.2.1 o28.2.1.1.2.2.2.1 o28.2.1.1.2.2.2.2.1 o28.2.1.1.2.2.2.2.2 o28.2.2.1).bind fun (o29:(Unit×(Unit×(Unit)))×(((List UInt8)×((List UInt8)×((List (List UInt8×((Int)×((Int)×((Int)×(List UInt8×(List UInt8)))))))×((List (List UInt8×(List UInt8)))×((List (List UInt8×((Int)×((Int)×((Int)×(List UInt8×(List UInt8)))))))×(List ((Int)×((Int)×((Int)×(List UInt8×(List UInt8×((Int)×((Int)×((Int)×(List UInt8×(List UInt8))))))))))))))))×(Unit))×((List (List UInt8))×(Unit)))=>(qw1 n n o29.2.1.1.2.2.2.2.1 ((List.length o29.2.1.1.2.2.2.2.1:Nat):Int) (0:Int) o29.2.1.1.1 o29.2.1.1.2.1 o29.2.1.1.2.2.1 o29.2.1.1.2.2.2.1 o29.2.1.1.2.2.2.2.1 o29.2.1.1.2.2.2.2.2 o29.2.2.1).bind fun (o30:(Unit×(Unit×(Unit)))×(((List UInt8)×((List UInt8)×((List (List UInt8×((Int)×((Int)×((Int)×(List UInt8×(List UInt8)))))))×((List (List UInt8×(List UInt8)))×((List (List UInt8×((Int)×((Int)×((Int)×(List UInt8×(List UInt8)))))))×(List ((Int)×((Int)×((Int)×(List UInt8×(List UInt8×((Int)×((Int)×((Int)×(List UInt8×(List UInt8))))))))))))))))×(Unit))×((List (List UInt8))×(Unit)))=>(qvt n n o30.2.1.1.2.2.2.2.2 ((List.length o30.2.1.1.2.2.2.2.2:Nat):Int) (0:Int) o30.2.2.1).bind fun (o31:(Unit×(Unit))×(Unit)×((List (List UInt8))×(Unit)))=>(qe8 o31.2.2.1 ([]:List UInt8)).bind fun (r32:List UInt8)=>some r32)
def qof (n:Nat):FC:={ f:=36,args:=[.one (.agg [.d .str,.d .str,.d (.lst (.prod .str (.prod (.int .i64) (.prod (.int .i64) (.prod (.int .i64) (.prod .str .str)))))),.d (.lst (.prod .str .str)),.d (.lst (.prod .str (.prod (.int .i64) (.prod (.int .i64) (.prod (.int .i64) (.prod .str .str)))))),.d (.lst (.prod (.int .i64) (.prod (.int .i64) (.prod (.int .i64) (.prod .str (.prod .str (.prod (.int .i64) (.prod (.int .i64) (.prod (.int .i64) (.prod .str .str))))))))))])],res:=.one (.c (.d .str)),F:=fun p=>jug n p }
def qk4 (n:Nat):List FC:=[qhz n,q9m n,qbf n,qy5]
theorem qc9 (n:Nat) {G:World->Prop} (hG:Know Inv G) : ∀c∈qk4 n,q0w Tryz.prog G c/\q09 c.args=true:=List.forall_mem_cons.2 ⟨jqd n G hG,List.forall_mem_cons.2 ⟨qzn n G hG,List.forall_mem_cons.2 ⟨joc n G hG,List.forall_mem_cons.2 ⟨jat G hG,(fun _ h=>by cases h)⟩⟩⟩⟩
def qku:q08:=[(7,[⟨30423614405477506761820783772160,2^102,0⟩,⟨243388915243820045087367015530496,2^105,0⟩,⟨1987676141157863701546830626095104,2^108,2⟩,⟨15576890575604482885591488987758592,2^111,0⟩,⟨127211273034103276898997160065957888,2^114,8⟩,⟨49*2^114,2^117,24⟩,⟨25089*2^108,5*2^120,62⟩,⟨53*2^120,2^123,126⟩,⟨49*2^123,5*2^126,254⟩,⟨4004566781977058768584705*2^50,604462909807314587353089*2^50,511⟩,⟨680564733841876926926750340763443268608,512,1023⟩]),(17,[⟨1234128417990904531616226886918012878737051899226310797418299904,2^207,0⟩,⟨73559785961562665201200657303214840813699477864812904451*2^27,2^210,0⟩,⟨300369126009714216238236017321460599989272867947986026497*2^28,2^213,2⟩,⟨4707826301540010572876842067405749812076766583348025884675*2^27,2^216,0⟩,⟨19223624064621709839247105108573478399313463548671105695745*2^28,2^219,8⟩,⟨49*2^219,2^222,24⟩,⟨25089*2^213,5*2^225,62⟩,⟨53*2^225,2^228,126⟩,⟨49*2^228,5*2^231,254⟩,⟨162444527514471923652347649653393377553121724408453398529*2^50,24519928653854221733733552434404946937899825954937634817*2^50,511⟩,⟨27606985387162255149739023449108101809804435888681546221775996802042880,512,1023⟩])]
theorem qrh:drB qku (q00 Tryz.f36)=true:=by kernel_rfl
theorem jsk (n:Nat) : ∀rec p,jbd n rec p=round Tryz.prog 97 (qk4 n) (qcq n) qku 4 qnu qdh (q01 0 3 (q00 Tryz.f36)) rec p:=by intro rec p;kernel_rfl
theorem jsc (n:Nat) : ∀rec p,j8p n rec p=round Tryz.prog 97 (qk4 n) (qcq n) qku 3 qnm qdv (q01 0 2 (q00 Tryz.f36)) rec p:=by intro rec p;kernel_rfl
theorem jqu (n:Nat) : ∀rec p,j9o n rec p=round Tryz.prog 97 (qk4 n) (qcq n) qku 2 qo0 qcv (q01 0 1 (q00 Tryz.f36)) rec p:=by intro rec p;kernel_rfl
theorem jqi (n:Nat) : ∀rec p,jb5 n rec p=round Tryz.prog 97 (qk4 n) (qcq n) qku 1 qmw qd8 (q01 0 0 (q00 Tryz.f36)) rec p:=by intro rec p;kernel_rfl
theorem joj (n:Nat) {F:Fr} (hF:F.n=97) (hK:Know Inv F.G):q6a Tryz.prog F (jki n) (q01 0 3 (q00 Tryz.f36)) :=
 q0g hF (by kernel_rfl) (qc9 n hK) (jsk n) (fuel:=n) (fun _=>rfl) (q02 fun j L h1 h2 h3=>absurd h2 (Nat.not_lt.2 (Nat.le_trans (by decide +kernel) h1))) (q0n qrh)
theorem jop (n:Nat) {F:Fr} (hF:F.n=97) (hK:Know Inv F.G):q6a Tryz.prog F (jmt n) (q01 0 2 (q00 Tryz.f36)) :=
 q0g hF (by kernel_rfl) (qc9 n hK) (jsc n) (fuel:=n) (fun _=>rfl) (q02 fun j L h1 h2 h3=>absurd h2 (Nat.not_lt.2 (Nat.le_trans (by decide +kernel) h1))) (q0n qrh)
theorem jny (n:Nat) {F:Fr} (hF:F.n=97) (hK:Know Inv F.G):q6a Tryz.prog F (jo5 n) (q01 0 1 (q00 Tryz.f36)) :=
 q0g hF (by kernel_rfl) (qc9 n hK) (jqu n) (fuel:=n) (fun _=>rfl) (q02 fun j L h1 h2 h3=>absurd h2 (Nat.not_lt.2 (Nat.le_trans (by decide +kernel) h1))) (q0n qrh)
theorem jpl (n:Nat) {F:Fr} (hF:F.n=97) (hK:Know Inv F.G):q6a Tryz.prog F (joo n) (q01 0 0 (q00 Tryz.f36)) :=
 q0g hF (by kernel_rfl) (qc9 n hK) (jqi n) (fuel:=n) (fun _=>rfl) (q02 fun j L h1 h2 h3=>absurd h2 (Nat.not_lt.2 (Nat.le_trans (by decide +kernel) h1))) (q0n qrh)
theorem jvd (n:Nat) : ∀a,(qof n).F a=main Tryz.prog 97 (qk4 n) (qcq n) qku (q00 Tryz.f36) [.tmp 2] (qof n).args (qof n).res a:=by intro a;kernel_rfl
theorem jvh (n:Nat):q0c Inv Tryz.prog (qof n):=fun G hG=>⟨⟨by kernel_rfl,fun a r h=>q03 (c:=q00 Tryz.f36) Tryz.func36 (by kernel_rfl) (by kernel_rfl) (Nat.le_of_ble_eq_true (by kernel_rfl)) hG.st (by kernel_rfl) (rs:=[.tmp 2]) (by kernel_rfl) (qc9 n hG) (lts:=qcq n) (fun F hF hFG=>have hK:Know Inv F.G:=hFG ▸ hG;(q02 (c:=(q00 Tryz.f36)) (fun j L h1 h2 h3=>by
  have h2':j<4:=Nat.lt_of_lt_of_le h2 (by decide +kernel)
  match j,h1,h2',h3 with
  | 0,_,_,h3=>obtain rfl:=Option.some.inj h3;exact (show q01 0 0 (q00 Tryz.f36)=q01 0 0 (q00 Tryz.f36) by kernel_rfl) ▸ jpl n hF hK
  | 1,_,_,h3=>obtain rfl:=Option.some.inj h3;exact (show q01 0 1 (q00 Tryz.f36)=q01 0 1 (q00 Tryz.f36) by kernel_rfl) ▸ jny n hF hK
  | 2,_,_,h3=>obtain rfl:=Option.some.inj h3;exact (show q01 0 2 (q00 Tryz.f36)=q01 0 2 (q00 Tryz.f36) by kernel_rfl) ▸ jop n hF hK
  | 3,_,_,h3=>obtain rfl:=Option.some.inj h3;exact (show q01 0 3 (q00 Tryz.f36)=q01 0 3 (q00 Tryz.f36) by kernel_rfl) ▸ joj n hF hK
  | j+4,_,h2',_=>exact absurd h2' (by omega)))) qrh ((jvd n a).symm.trans h)⟩,rfl⟩
@[reducible] def qgh:SSt:=⟨[(0,.one (.c (.d (.lst (.prod .str (.prod (.int .i64) (.prod (.int .i64) (.prod (.int .i64) (.prod .str .str))))))))),(1,.one (.c (.d (.lst (.prod .str (.prod (.int .i64) (.prod (.int .i64) (.prod (.int .i64) (.prod .str .str))))))))),(12,.one (.c (.d (.int .i64)))),(13,.one (.c (.d (.int .i64))))],[],[]⟩
@[reducible] def q9q:List (Exit×SSt):=[(.ret,⟨[(4,.one (.c (.d .bool)))],[],[]⟩),(.exit 0,⟨[],[],[]⟩)]
def jrq (n:Nat) (rec:(List (List UInt8×((Int)×((Int)×((Int)×(List UInt8×(List UInt8)))))))->(List (List UInt8×((Int)×((Int)×((Int)×(List UInt8×(List UInt8)))))))->Int->Int->Option (((Bool×(Unit))×(Unit)×(Unit))⊕((Unit)×(Unit)×(Unit)))) (a1:List (List UInt8×((Int)×((Int)×((Int)×(List UInt8×(List UInt8))))))) (a2:List (List UInt8×((Int)×((Int)×((Int)×(List UInt8×(List UInt8))))))) (a3:Int) (a4:Int):Option (((Bool×(Unit))×(Unit)×(Unit))⊕((Unit)×(Unit)×(Unit))) :=
 (bif decide (a4<a3) then (q0z a1 a4).bind fun (x1:List UInt8×((Int)×((Int)×((Int)×(List UInt8×(List UInt8))))))=>(q0z a2 a4).bind fun (x2:List UInt8×((Int)×((Int)×((Int)×(List UInt8×(List UInt8))))))=>(bif !(decide (x1.1=x2.1)&&((decide (x1.2.1=x2.2.1)&&(decide (x1.2.2.1=x2.2.2.1)&&(decide (x1.2.2.2.1=x2.2.2.2.1)&&(decide (x1.2.2.2.2.1=x2.2.2.2.2.1)&&(decide (x1.2.2.2.2.2=x2.2.2.2.2.2)&&true)))))&&true)) then some (Sum.inl ((false,()),((),()))) else q05 (IntKind.wrap .i64 (a4+(1:Int))) fun (n3:Int)=>rec a1 a2 a3 n3) else some (Sum.inr (((),((),())))))
def j10 (n:Nat) (rec:pSt qgh->Option (q0d q9q)) (p:pSt qgh):Option (q0d q9q):=jrq n (fun a1 a2 a3 a4=>rec ((a1,(a2,(a3,(a4,())))),((),()))) p.1.1 p.1.2.1 p.1.2.2.1 p.1.2.2.2.1
def jbm (n m:Nat) (a1:List (List UInt8×((Int)×((Int)×((Int)×(List UInt8×(List UInt8))))))) (a2:List (List UInt8×((Int)×((Int)×((Int)×(List UInt8×(List UInt8))))))) (a3:Int) (a4:Int):Option (((Bool×(Unit))×(Unit)×(Unit))⊕((Unit)×(Unit)×(Unit))):=q0e (j10 n) m ((a1,(a2,(a3,(a4,())))),((),()))
def jd2 (n:Nat):LC:={ sh:=qgh,outs:=q9q,F:=q0e (j10 n) n }
def qpo (n:Nat):List LC:=[jd2 n]
def jba (n:Nat) (a1:List (List UInt8×((Int)×((Int)×((Int)×(List UInt8×(List UInt8))))))) (a2:List (List UInt8×((Int)×((Int)×((Int)×(List UInt8×(List UInt8))))))):Option (Bool) :=
 (bif !decide (((List.length a1:Nat):Int)=((List.length a2:Nat):Int)) then some false else (jbm n n a1 a2 ((List.length a1:Nat):Int) (0:Int)).bind fun (o4:((Bool×(Unit))×(Unit)×(Unit))⊕((Unit)×(Unit)×(Unit)))=>Sum.elim (fun (q5:(Bool×(Unit))×(Unit)×(Unit))=>some q5.1.1) (fun (q6:(Unit)×(Unit)×(Unit))=>some true) o4)
def qgb (n:Nat):FC:={ f:=56,args:=[.one (.c (.d (.lst (.prod .str (.prod (.int .i64) (.prod (.int .i64) (.prod (.int .i64) (.prod .str .str)))))))),.one (.c (.d (.lst (.prod .str (.prod (.int .i64) (.prod (.int .i64) (.prod (.int .i64) (.prod .str .str))))))))],res:=.one (.c (.d .bool)),F:=fun p=>jba n p.1 p.2 }
def j13 (n:Nat):List FC:=[]
theorem qww (n:Nat) {G:World->Prop} (hG:Know Inv G) : ∀c∈j13 n,q0w Tryz.prog G c/\q09 c.args=true:=(fun _ h=>by cases h)
def qyx:q08:=[(6,[⟨1688849860263937,2^48,0⟩,⟨13510798882144256,2^51,0⟩,⟨393*2^48,2^54,3⟩,⟨49*2^54,2^57,7⟩,⟨6917529027641081864,2^60,0⟩,⟨55340232221128687616,2^63,0⟩,⟨393*2^60,2^66,48⟩,⟨49*2^66,2^69,112⟩,⟨200705*2^57,2^72,255⟩])]
theorem jdg:drB qyx (q00 Tryz.f56)=true:=by kernel_rfl
theorem jli (n:Nat) : ∀rec p,j10 n rec p=round Tryz.prog 26 (j13 n) (qpo n) qyx 1 qgh q9q (q01 0 0 (q00 Tryz.f56)) rec p:=by intro rec p;kernel_rfl
theorem jhl (n:Nat) {F:Fr} (hF:F.n=26) (hK:Know Inv F.G):q6a Tryz.prog F (jd2 n) (q01 0 0 (q00 Tryz.f56)) :=
 q0g hF (by kernel_rfl) (qww n hK) (jli n) (fuel:=n) (fun _=>rfl) (q02 fun j L h1 h2 h3=>absurd h2 (Nat.not_lt.2 (Nat.le_trans (by decide +kernel) h1))) (q0n jdg)
theorem jso (n:Nat) : ∀a,(qgb n).F a=main Tryz.prog 26 (j13 n) (qpo n) qyx (q00 Tryz.f56) [.tmp 4] (qgb n).args (qgb n).res a:=by intro a;kernel_rfl
theorem jte (n:Nat):q0c Inv Tryz.prog (qgb n):=fun G hG=>⟨⟨by kernel_rfl,fun a r h=>q03 (c:=q00 Tryz.f56) Tryz.func56 (by kernel_rfl) (by kernel_rfl) (Nat.le_of_ble_eq_true (by kernel_rfl)) hG.st (by kernel_rfl) (rs:=[.tmp 4]) (by kernel_rfl) (qww n hG) (lts:=qpo n) (fun F hF hFG=>have hK:Know Inv F.G:=hFG ▸ hG;(q02 (c:=(q00 Tryz.f56)) (fun j L h1 h2 h3=>by
  have h2':j<1:=Nat.lt_of_lt_of_le h2 (by decide +kernel)
  match j,h1,h2',h3 with
  | 0,_,_,h3=>obtain rfl:=Option.some.inj h3;exact (show q01 0 0 (q00 Tryz.f56)=q01 0 0 (q00 Tryz.f56) by kernel_rfl) ▸ jhl n hF hK
  | j+1,_,h2',_=>exact absurd h2' (by omega)))) jdg ((jso n a).symm.trans h)⟩,rfl⟩
@[reducible] def qd2:SSt:=⟨[(0,.one (.c (.d (.lst (.prod .str .str))))),(1,.one (.c (.d (.lst (.prod .str .str))))),(12,.one (.c (.d (.int .i64)))),(13,.one (.c (.d (.int .i64))))],[],[]⟩
@[reducible] def q70:List (Exit×SSt):=[(.ret,⟨[(4,.one (.c (.d .bool)))],[],[]⟩),(.exit 0,⟨[],[],[]⟩)]
def jjs (n:Nat) (rec:(List (List UInt8×(List UInt8)))->(List (List UInt8×(List UInt8)))->Int->Int->Option (((Bool×(Unit))×(Unit)×(Unit))⊕((Unit)×(Unit)×(Unit)))) (a1:List (List UInt8×(List UInt8))) (a2:List (List UInt8×(List UInt8))) (a3:Int) (a4:Int):Option (((Bool×(Unit))×(Unit)×(Unit))⊕((Unit)×(Unit)×(Unit))) :=
 (bif decide (a4<a3) then (q0z a1 a4).bind fun (x1:List UInt8×(List UInt8))=>(q0z a2 a4).bind fun (x2:List UInt8×(List UInt8))=>(bif !(decide (x1.1=x2.1)&&(decide (x1.2=x2.2)&&true)) then some (Sum.inl ((false,()),((),()))) else q05 (IntKind.wrap .i64 (a4+(1:Int))) fun (n3:Int)=>rec a1 a2 a3 n3) else some (Sum.inr (((),((),())))))
def qqd (n:Nat) (rec:pSt qd2->Option (q0d q70)) (p:pSt qd2):Option (q0d q70):=jjs n (fun a1 a2 a3 a4=>rec ((a1,(a2,(a3,(a4,())))),((),()))) p.1.1 p.1.2.1 p.1.2.2.1 p.1.2.2.2.1
def j6g (n m:Nat) (a1:List (List UInt8×(List UInt8))) (a2:List (List UInt8×(List UInt8))) (a3:Int) (a4:Int):Option (((Bool×(Unit))×(Unit)×(Unit))⊕((Unit)×(Unit)×(Unit))):=q0e (qqd n) m ((a1,(a2,(a3,(a4,())))),((),()))
def j6h (n:Nat):LC:={ sh:=qd2,outs:=q70,F:=q0e (qqd n) n }
def qk0 (n:Nat):List LC:=[j6h n]
def jey (n:Nat) (a1:List (List UInt8×(List UInt8))) (a2:List (List UInt8×(List UInt8))):Option (Bool) :=
 (bif !decide (((List.length a1:Nat):Int)=((List.length a2:Nat):Int)) then some false else (j6g n n a1 a2 ((List.length a1:Nat):Int) (0:Int)).bind fun (o4:((Bool×(Unit))×(Unit)×(Unit))⊕((Unit)×(Unit)×(Unit)))=>Sum.elim (fun (q5:(Bool×(Unit))×(Unit)×(Unit))=>some q5.1.1) (fun (q6:(Unit)×(Unit)×(Unit))=>some true) o4)
def qcl (n:Nat):FC:={ f:=57,args:=[.one (.c (.d (.lst (.prod .str .str)))),.one (.c (.d (.lst (.prod .str .str))))],res:=.one (.c (.d .bool)),F:=fun p=>jey n p.1 p.2 }
def qso (n:Nat):List FC:=[]
theorem qqj (n:Nat) {G:World->Prop} (hG:Know Inv G) : ∀c∈qso n,q0w Tryz.prog G c/\q09 c.args=true:=(fun _ h=>by cases h)
def qsi:q08:=[(6,[⟨1688849860263937,2^48,0⟩,⟨13510798882144256,2^51,0⟩,⟨393*2^48,2^54,3⟩,⟨49*2^54,2^57,7⟩,⟨6917529027641081864,2^60,0⟩,⟨55340232221128687616,2^63,0⟩,⟨393*2^60,2^66,48⟩,⟨49*2^66,2^69,112⟩,⟨200705*2^57,2^72,255⟩])]
theorem j4k:drB qsi (q00 Tryz.f57)=true:=by kernel_rfl
theorem jg6 (n:Nat) : ∀rec p,qqd n rec p=round Tryz.prog 26 (qso n) (qk0 n) qsi 1 qd2 q70 (q01 0 0 (q00 Tryz.f57)) rec p:=by intro rec p;kernel_rfl
theorem j89 (n:Nat) {F:Fr} (hF:F.n=26) (hK:Know Inv F.G):q6a Tryz.prog F (j6h n) (q01 0 0 (q00 Tryz.f57)) :=
 q0g hF (by kernel_rfl) (qqj n hK) (jg6 n) (fuel:=n) (fun _=>rfl) (q02 fun j L h1 h2 h3=>absurd h2 (Nat.not_lt.2 (Nat.le_trans (by decide +kernel) h1))) (q0n j4k)
theorem jjk (n:Nat) : ∀a,(qcl n).F a=main Tryz.prog 26 (qso n) (qk0 n) qsi (q00 Tryz.f57) [.tmp 4] (qcl n).args (qcl n).res a:=by intro a;kernel_rfl
theorem jmx (n:Nat):q0c Inv Tryz.prog (qcl n):=fun G hG=>⟨⟨by kernel_rfl,fun a r h=>q03 (c:=q00 Tryz.f57) Tryz.func57 (by kernel_rfl) (by kernel_rfl) (Nat.le_of_ble_eq_true (by kernel_rfl)) hG.st (by kernel_rfl) (rs:=[.tmp 4]) (by kernel_rfl) (qqj n hG) (lts:=qk0 n) (fun F hF hFG=>have hK:Know Inv F.G:=hFG ▸ hG;(q02 (c:=(q00 Tryz.f57)) (fun j L h1 h2 h3=>by
  have h2':j<1:=Nat.lt_of_lt_of_le h2 (by decide +kernel)
  match j,h1,h2',h3 with
  | 0,_,_,h3=>obtain rfl:=Option.some.inj h3;exact (show q01 0 0 (q00 Tryz.f57)=q01 0 0 (q00 Tryz.f57) by kernel_rfl) ▸ j89 n hF hK
  | j+1,_,h2',_=>exact absurd h2' (by omega)))) j4k ((jjk n a).symm.trans h)⟩,rfl⟩
@[reducible] def qco:SSt:=⟨[(0,.one (.c (.d (.lst (.prod (.int .i64) (.prod (.int .i64) (.prod (.int .i64) (.prod .str (.prod .str (.prod (.int .i64) (.prod (.int .i64) (.prod (.int .i64) (.prod .str .str))))))))))))),(1,.one (.c (.d (.lst (.prod (.int .i64) (.prod (.int .i64) (.prod (.int .i64) (.prod .str (.prod .str (.prod (.int .i64) (.prod (.int .i64) (.prod (.int .i64) (.prod .str .str))))))))))))),(12,.one (.c (.d (.int .i64)))),(13,.one (.c (.d (.int .i64))))],[],[]⟩
@[reducible] def q7g:List (Exit×SSt):=[(.ret,⟨[(4,.one (.c (.d .bool)))],[],[]⟩),(.exit 0,⟨[],[],[]⟩)]
def jno (n:Nat) (rec:(List ((Int)×((Int)×((Int)×(List UInt8×(List UInt8×((Int)×((Int)×((Int)×(List UInt8×(List UInt8)))))))))))->(List ((Int)×((Int)×((Int)×(List UInt8×(List UInt8×((Int)×((Int)×((Int)×(List UInt8×(List UInt8)))))))))))->Int->Int->Option (((Bool×(Unit))×(Unit)×(Unit))⊕((Unit)×(Unit)×(Unit)))) (a1:List ((Int)×((Int)×((Int)×(List UInt8×(List UInt8×((Int)×((Int)×((Int)×(List UInt8×(List UInt8))))))))))) (a2:List ((Int)×((Int)×((Int)×(List UInt8×(List UInt8×((Int)×((Int)×((Int)×(List UInt8×(List UInt8))))))))))) (a3:Int) (a4:Int):Option (((Bool×(Unit))×(Unit)×(Unit))⊕((Unit)×(Unit)×(Unit))) :=
 (bif decide (a4<a3) then (q0z a1 a4).bind fun (x1:(Int)×((Int)×((Int)×(List UInt8×(List UInt8×((Int)×((Int)×((Int)×(List UInt8×(List UInt8))))))))))=>(q0z a2 a4).bind fun (x2:(Int)×((Int)×((Int)×(List UInt8×(List UInt8×((Int)×((Int)×((Int)×(List UInt8×(List UInt8))))))))))=>(bif !((decide (x1.1=x2.1)&&(decide (x1.2.1=x2.2.1)&&(decide (x1.2.2.1=x2.2.2.1)&&(decide (x1.2.2.2.1=x2.2.2.2.1)&&(decide (x1.2.2.2.2.1=x2.2.2.2.2.1)&&true)))))&&((decide (x1.2.2.2.2.2.1=x2.2.2.2.2.2.1)&&(decide (x1.2.2.2.2.2.2.1=x2.2.2.2.2.2.2.1)&&(decide (x1.2.2.2.2.2.2.2.1=x2.2.2.2.2.2.2.2.1)&&(decide (x1.2.2.2.2.2.2.2.2.1=x2.2.2.2.2.2.2.2.2.1)&&(decide (x1.2.2.2.2.2.2.2.2.2=x2.2.2.2.2.2.2.2.2.2)&&true)))))&&true)) then some (Sum.inl ((false,()),((),()))) else q05 (IntKind.wrap .i64 (a4+(1:Int))) fun (n3:Int)=>rec a1 a2 a3 n3) else some (Sum.inr (((),((),())))))
def qtg (n:Nat) (rec:pSt qco->Option (q0d q7g)) (p:pSt qco):Option (q0d q7g):=jno n (fun a1 a2 a3 a4=>rec ((a1,(a2,(a3,(a4,())))),((),()))) p.1.1 p.1.2.1 p.1.2.2.1 p.1.2.2.2.1
def j6k (n m:Nat) (a1:List ((Int)×((Int)×((Int)×(List UInt8×(List UInt8×((Int)×((Int)×((Int)×(List UInt8×(List UInt8))))))))))) (a2:List ((Int)×((Int)×((Int)×(List UInt8×(List UInt8×((Int)×((Int)×((Int)×(List UInt8×(List UInt8))))))))))) (a3:Int) (a4:Int):Option (((Bool×(Unit))×(Unit)×(Unit))⊕((Unit)×(Unit)×(Unit))):=q0e (qtg n) m ((a1,(a2,(a3,(a4,())))),((),()))
def j1r (n:Nat):LC:={ sh:=qco,outs:=q7g,F:=q0e (qtg n) n }
def qkb (n:Nat):List LC:=[j1r n]
def jdo (n:Nat) (a1:List ((Int)×((Int)×((Int)×(List UInt8×(List UInt8×((Int)×((Int)×((Int)×(List UInt8×(List UInt8))))))))))) (a2:List ((Int)×((Int)×((Int)×(List UInt8×(List UInt8×((Int)×((Int)×((Int)×(List UInt8×(List UInt8))))))))))):Option (Bool) :=
 (bif !decide (((List.length a1:Nat):Int)=((List.length a2:Nat):Int)) then some false else (j6k n n a1 a2 ((List.length a1:Nat):Int) (0:Int)).bind fun (o4:((Bool×(Unit))×(Unit)×(Unit))⊕((Unit)×(Unit)×(Unit)))=>Sum.elim (fun (q5:(Bool×(Unit))×(Unit)×(Unit))=>some q5.1.1) (fun (q6:(Unit)×(Unit)×(Unit))=>some true) o4)
def qbk (n:Nat):FC:={ f:=58,args:=[.one (.c (.d (.lst (.prod (.int .i64) (.prod (.int .i64) (.prod (.int .i64) (.prod .str (.prod .str (.prod (.int .i64) (.prod (.int .i64) (.prod (.int .i64) (.prod .str .str)))))))))))),.one (.c (.d (.lst (.prod (.int .i64) (.prod (.int .i64) (.prod (.int .i64) (.prod .str (.prod .str (.prod (.int .i64) (.prod (.int .i64) (.prod (.int .i64) (.prod .str .str))))))))))))],res:=.one (.c (.d .bool)),F:=fun p=>jdo n p.1 p.2 }
def qtu (n:Nat):List FC:=[]
theorem qqv (n:Nat) {G:World->Prop} (hG:Know Inv G) : ∀c∈qtu n,q0w Tryz.prog G c/\q09 c.args=true:=(fun _ h=>by cases h)
def qr8:q08:=[(6,[⟨1688849860263937,2^48,0⟩,⟨13510798882144256,2^51,0⟩,⟨393*2^48,2^54,3⟩,⟨49*2^54,2^57,7⟩,⟨6917529027641081864,2^60,0⟩,⟨55340232221128687616,2^63,0⟩,⟨393*2^60,2^66,48⟩,⟨49*2^66,2^69,112⟩,⟨200705*2^57,2^72,255⟩])]
theorem j2i:drB qr8 (q00 Tryz.f58)=true:=by kernel_rfl
theorem jfw (n:Nat) : ∀rec p,qtg n rec p=round Tryz.prog 26 (qtu n) (qkb n) qr8 1 qco q7g (q01 0 0 (q00 Tryz.f58)) rec p:=by intro rec p;kernel_rfl
theorem j8f (n:Nat) {F:Fr} (hF:F.n=26) (hK:Know Inv F.G):q6a Tryz.prog F (j1r n) (q01 0 0 (q00 Tryz.f58)) :=
 q0g hF (by kernel_rfl) (qqv n hK) (jfw n) (fuel:=n) (fun _=>rfl) (q02 fun j L h1 h2 h3=>absurd h2 (Nat.not_lt.2 (Nat.le_trans (by decide +kernel) h1))) (q0n j2i)
theorem jl4 (n:Nat) : ∀a,(qbk n).F a=main Tryz.prog 26 (qtu n) (qkb n) qr8 (q00 Tryz.f58) [.tmp 4] (qbk n).args (qbk n).res a:=by intro a;kernel_rfl
theorem jjh (n:Nat):q0c Inv Tryz.prog (qbk n):=fun G hG=>⟨⟨by kernel_rfl,fun a r h=>q03 (c:=q00 Tryz.f58) Tryz.func58 (by kernel_rfl) (by kernel_rfl) (Nat.le_of_ble_eq_true (by kernel_rfl)) hG.st (by kernel_rfl) (rs:=[.tmp 4]) (by kernel_rfl) (qqv n hG) (lts:=qkb n) (fun F hF hFG=>have hK:Know Inv F.G:=hFG ▸ hG;(q02 (c:=(q00 Tryz.f58)) (fun j L h1 h2 h3=>by
  have h2':j<1:=Nat.lt_of_lt_of_le h2 (by decide +kernel)
  match j,h1,h2',h3 with
  | 0,_,_,h3=>obtain rfl:=Option.some.inj h3;exact (show q01 0 0 (q00 Tryz.f58)=q01 0 0 (q00 Tryz.f58) by kernel_rfl) ▸ j8f n hF hK
  | j+1,_,h2',_=>exact absurd h2' (by omega)))) j2i ((jl4 n a).symm.trans h)⟩,rfl⟩
def j3w (n:Nat):List LC:=[]
def qyh (n:Nat) (a1:(List UInt8)×((List UInt8)×((List (List UInt8×((Int)×((Int)×((Int)×(List UInt8×(List UInt8)))))))×((List (List UInt8×(List UInt8)))×((List (List UInt8×((Int)×((Int)×((Int)×(List UInt8×(List UInt8)))))))×(List ((Int)×((Int)×((Int)×(List UInt8×(List UInt8×((Int)×((Int)×((Int)×(List UInt8×(List UInt8)))))))))))))))) (a2:(List UInt8)×((List UInt8)×((List (List UInt8×((Int)×((Int)×((Int)×(List UInt8×(List UInt8)))))))×((List (List UInt8×(List UInt8)))×((List (List UInt8×((Int)×((Int)×((Int)×(List UInt8×(List UInt8)))))))×(List ((Int)×((Int)×((Int)×(List UInt8×(List UInt8×((Int)×((Int)×((Int)×(List UInt8×(List UInt8)))))))))))))))):Option (Bool) :=
 (bif decide (a1.1=a2.1) then (bif decide (a1.2.1=a2.2.1) then (jba n a1.2.2.1 a2.2.2.1).bind fun (r1:Bool)=>(bif r1 then (jey n a1.2.2.2.1 a2.2.2.2.1).bind fun (r2:Bool)=>(bif r2 then (jba n a1.2.2.2.2.1 a2.2.2.2.2.1).bind fun (r3:Bool)=>(bif r3 then (jdo n a1.2.2.2.2.2 a2.2.2.2.2.2).bind fun (r4:Bool)=>some r4 else some false) else some false) else some false) else some false) else some false)
def qde (n:Nat):FC:={ f:=35,args:=[.one (.agg [.d .str,.d .str,.d (.lst (.prod .str (.prod (.int .i64) (.prod (.int .i64) (.prod (.int .i64) (.prod .str .str)))))),.d (.lst (.prod .str .str)),.d (.lst (.prod .str (.prod (.int .i64) (.prod (.int .i64) (.prod (.int .i64) (.prod .str .str)))))),.d (.lst (.prod (.int .i64) (.prod (.int .i64) (.prod (.int .i64) (.prod .str (.prod .str (.prod (.int .i64) (.prod (.int .i64) (.prod (.int .i64) (.prod .str .str))))))))))]),.one (.agg [.d .str,.d .str,.d (.lst (.prod .str (.prod (.int .i64) (.prod (.int .i64) (.prod (.int .i64) (.prod .str .str)))))),.d (.lst (.prod .str .str)),.d (.lst (.prod .str (.prod (.int .i64) (.prod (.int .i64) (.prod (.int .i64) (.prod .str .str)))))),.d (.lst (.prod (.int .i64) (.prod (.int .i64) (.prod (.int .i64) (.prod .str (.prod .str (.prod (.int .i64) (.prod (.int .i64) (.prod (.int .i64) (.prod .str .str))))))))))])],res:=.one (.c (.d .bool)),F:=fun p=>qyh n p.1 p.2 }
def jd8 (n:Nat):List FC:=[qgb n,qcl n,qbk n]
theorem jge (n:Nat) {G:World->Prop} (hG:Know Inv G) : ∀c∈jd8 n,q0w Tryz.prog G c/\q09 c.args=true:=List.forall_mem_cons.2 ⟨jte n G hG,List.forall_mem_cons.2 ⟨jmx n G hG,List.forall_mem_cons.2 ⟨jjh n G hG,(fun _ h=>by cases h)⟩⟩⟩
def jbu:q08:=[]
theorem jrp:drB jbu (q00 Tryz.f35)=true:=by kernel_rfl
theorem jtf (n:Nat) : ∀a,(qde n).F a=main Tryz.prog 45 (jd8 n) (j3w n) jbu (q00 Tryz.f35) [.tmp 4] (qde n).args (qde n).res a:=by intro a;kernel_rfl
theorem jdw (n:Nat):q0c Inv Tryz.prog (qde n):=fun G hG=>⟨⟨by kernel_rfl,fun a r h=>q03 (c:=q00 Tryz.f35) Tryz.func35 (by kernel_rfl) (by kernel_rfl) (Nat.le_of_ble_eq_true (by kernel_rfl)) hG.st (by kernel_rfl) (rs:=[.tmp 4]) (by kernel_rfl) (jge n hG) (lts:=j3w n) (fun F hF hFG=>have hK:Know Inv F.G:=hFG ▸ hG;(q02 fun j L h1 h2 h3=>absurd h2 (Nat.not_lt.2 (Nat.le_trans (by decide +kernel) h1)))) jrp ((jtf n a).symm.trans h)⟩,rfl⟩
def j5s (n:Nat):List LC:=[]
def jnu (n:Nat) (a1:(List UInt8)×((List UInt8)×((List (List UInt8×((Int)×((Int)×((Int)×(List UInt8×(List UInt8)))))))×((List (List UInt8×(List UInt8)))×((List (List UInt8×((Int)×((Int)×((Int)×(List UInt8×(List UInt8)))))))×(List ((Int)×((Int)×((Int)×(List UInt8×(List UInt8×((Int)×((Int)×((Int)×(List UInt8×(List UInt8)))))))))))))))):Option ((List UInt8)×(Int)) :=
 (jug n a1).bind fun (r1:List UInt8)=>(q5g n r1).bind fun (r2:((List UInt8)×((List UInt8)×((List (List UInt8×((Int)×((Int)×((Int)×(List UInt8×(List UInt8)))))))×((List (List UInt8×(List UInt8)))×((List (List UInt8×((Int)×((Int)×((Int)×(List UInt8×(List UInt8)))))))×(List ((Int)×((Int)×((Int)×(List UInt8×(List UInt8×((Int)×((Int)×((Int)×(List UInt8×(List UInt8))))))))))))))))×(Int×(Int)))=>(bif !decide (r2.2.2=(0:Int)) then some (([]:List UInt8),r2.2.2) else (qyh n r2.1 a1).bind fun (r3:Bool)=>(bif !r3 then some (([]:List UInt8),(1:Int)) else some (r1,(0:Int))))
def qfx (n:Nat):FC:={ f:=14,args:=[.one (.agg [.d .str,.d .str,.d (.lst (.prod .str (.prod (.int .i64) (.prod (.int .i64) (.prod (.int .i64) (.prod .str .str)))))),.d (.lst (.prod .str .str)),.d (.lst (.prod .str (.prod (.int .i64) (.prod (.int .i64) (.prod (.int .i64) (.prod .str .str)))))),.d (.lst (.prod (.int .i64) (.prod (.int .i64) (.prod (.int .i64) (.prod .str (.prod .str (.prod (.int .i64) (.prod (.int .i64) (.prod (.int .i64) (.prod .str .str))))))))))])],res:=.tup [.c (.d .str),.c (.d (.int .i64))],F:=fun p=>jnu n p }
def jfc (n:Nat):List FC:=[qof n,q6o n,qde n]
theorem ji1 (n:Nat) {G:World->Prop} (hG:Know Inv G) : ∀c∈jfc n,q0w Tryz.prog G c/\q09 c.args=true:=List.forall_mem_cons.2 ⟨jvh n G hG,List.forall_mem_cons.2 ⟨qop n G hG,List.forall_mem_cons.2 ⟨jdw n G hG,(fun _ h=>by cases h)⟩⟩⟩
def je4:q08:=[]
theorem jqv:drB je4 (q00 Tryz.f14)=true:=by kernel_rfl
theorem js0 (n:Nat) : ∀a,(qfx n).F a=main Tryz.prog 24 (jfc n) (j5s n) je4 (q00 Tryz.f14) [.tmp 2,.tmp 3] (qfx n).args (qfx n).res a:=by intro a;kernel_rfl
theorem jtl (n:Nat):q0c Inv Tryz.prog (qfx n):=fun G hG=>⟨⟨by kernel_rfl,fun a r h=>q03 (c:=q00 Tryz.f14) Tryz.func14 (by kernel_rfl) (by kernel_rfl) (Nat.le_of_ble_eq_true (by kernel_rfl)) hG.st (by kernel_rfl) (rs:=[.tmp 2,.tmp 3]) (by kernel_rfl) (ji1 n hG) (lts:=j5s n) (fun F hF hFG=>have hK:Know Inv F.G:=hFG ▸ hG;(q02 fun j L h1 h2 h3=>absurd h2 (Nat.not_lt.2 (Nat.le_trans (by decide +kernel) h1)))) jqv ((js0 n a).symm.trans h)⟩,rfl⟩
end Go.Proofs.YtapfankgdkdkgaaGreatDoor.AM
namespace Go.Proofs.YtapfankgdkdkgaaGreatDoor.AM
open Go.RowKit
set_option linter.unusedVariables false
set_option linter.unusedSimpArgs false
def WAt (i:Nat) (ws:List Lx.Wd):Prop:=∀w∈ws,0<=w.2/\w.2+((w.1.length:Nat):Int)<=(i:Int)
theorem WAt.mono {i j:Nat} {ws:List Lx.Wd} (h:WAt i ws) (hj:i<=j):WAt j ws:=fun w hw=>by have:=h w hw;omega
theorem WAt.snoc {i:Nat} {ws:List Lx.Wd} {w:Lx.Wd} (h:WAt i ws) (hw:0<=w.2/\w.2+((w.1.length:Nat):Int)<=(i:Int)):WAt i (ws ++ [w]):=fun x hx=>by
 rcases List.mem_append.1 hx with hx|hx
 ·exact h x hx
 ·rw [List.mem_singleton.1 hx];exact hw
theorem WAt.addL {i:Nat} {ws:List Lx.Wd} {c:UInt8} (h:WAt i ws):WAt (i+1) (Lx.addL ws c):=by
 unfold Lx.addL
 split
 ·rename_i t p hp
  have hm:(t,p)∈ws:=List.mem_of_getLast? hp
  have h0:=h _ hm
  refine WAt.snoc (fun x hx=>?_) (by simp at h0 ⊢;omega)
  have:=h x (List.dropLast_subset _ hx)
  omega
 ·exact h.mono (by omega)
theorem qrl : ∀(l:List UInt8) (i:Nat) (op:Bool) (ws:List Lx.Wd),WAt i ws->WAt (i+l.length) (Lx.j7o l i op ws)
 | [],i,op,ws,h=>by rw [Lx.j7o];exact h
 | c::r,i,op,ws,h=>by
  rw [Lx.j7o,List.length_cons,show i+(r.length+1)=(i+1)+r.length by omega]
  split
  ·exact qrl r (i+1) false _ ((h.mono (by omega)).snoc (by simp))
  ·split
   ·exact qrl r (i+1) false _ (h.mono (by omega))
   ·split
    ·exact qrl r (i+1) true _ h.addL
    ·exact qrl r (i+1) true _ ((h.mono (by omega)).snoc (by simp))
theorem jrd (t:List UInt8):WAt t.length (q15 t):=by
 unfold q15 Lx.j7n
 rw [Lx.qyl]
 have:=qrl (t.take (Lx.jua t false)) 0 false [] (fun w hw=>by cases hw)
 refine this.mono ?_
 simp;omega
theorem jqy (t:List UInt8) (h:t.length<=100001):WB (q15 t):=by
 refine ⟨Nat.le_trans (Lx.jsp t).1 h,fun w hw=>?_⟩
 have:=jrd t w hw
 omega
theorem SB.mono {k j:Nat} {σ:MS} (h:SB k σ) (hj:k<=j):SB j σ:=by unfold SB at *;omega
theorem qht {k:Nat} {σ σ':MS} {c:Cl} {st:Int} {w:Lx.Wd} (h:SB k σ) (e:q1w σ c st w = .inr σ'):SB k σ':=by
 unfold q1w at e
 split at e
 ·cases e
 ·cases e;exact h
theorem k0g {k:Nat} {σ σ':MS} {v:List UInt8} {ws:List Lx.Wd} {st:Int} (h:SB k σ) (e:qu3 σ st v ws = .inr σ'):SB (k+1) σ':=by
 have h':=h.mono (Nat.le_succ k)
 obtain ⟨b1,b2,b3,b4⟩:=h
 unfold qu3 at e
 split at e
 ·cases e
 ·split at e
  ·split at e
   ·cases e
   ·refine qht (k:=k+1) ?_ e
    exact h'
  ·split at e
   ·split at e
    ·cases e
    ·refine qht (k:=k+1) ?_ e
     exact h'
   ·split at e
    ·split at e
     ·cases e
     ·exact qht (k:=k+1) ⟨by simp;omega,by simp;omega,by simp;omega,by simp;omega⟩ e
    ·split at e
     ·split at e
      ·cases e
      ·exact qht (k:=k+1) ⟨by simp;omega,by simp;omega,by simp;omega,by simp;omega⟩ e
     ·split at e
      ·split at e
       ·cases e
       ·split at e
        ·cases e
        ·exact qht (k:=k+1) ⟨by simp;omega,by simp;omega,by simp;omega,by simp;omega⟩ e
      ·split at e
       ·cases e
       ·split at e
        ·cases e
        ·split at e
         ·cases e
         ·cases e
          exact ⟨by simp;omega,by simp;omega,by simp;omega,by simp;omega⟩
theorem jjt {k:Nat} {σ σ':MS} {v:List UInt8} {ws:List Lx.Wd} {st:Int} (h:SB k σ) (e:q6d σ st v ws = .inr σ'):SB (k+1) σ':=by
 unfold q6d at e
 split at e
 ·exact k0g h e
 ·cases e
theorem jpb {k:Nat} {σ σ':MS} {ws:List Lx.Wd} {st:Int} (h:SB k σ) (e:q58 σ st ws = .inr σ'):SB (k+1) σ':=by
 unfold q58 at e
 split at e
 ·cases e;exact h.mono (Nat.le_succ k)
 ·split at e
  ·split at e
   ·cases e;exact h.mono (Nat.le_succ k)
   ·exact jjt h e
  ·split at e
   ·cases e;exact h.mono (Nat.le_succ k)
   ·exact jjt h e
def tot:List (List UInt8)->Nat
 | []=>0
 | x::xs=>x.length+1+tot xs
theorem j9n (c:UInt8) : ∀(l cur:List UInt8),tot (spl c cur l)=cur.length+l.length+1
 | [],cur=>by simp [spl,tot]
 | x::r,cur=>by
  rw [spl]
  split
  ·rw [tot,j9n c r []];simp;omega
  ·rw [j9n c r _];simp;omega
theorem jlz (s:List UInt8):tot (Lx.q0p s)<=s.length+1:=by
 unfold Lx.q0p
 split
 ·simp [tot]
 ·rw [j9n]
  split
  ·simp
  ·simp
theorem j5t : ∀(ls:List (List UInt8)) (i:Nat) (out:List Lx.Ln),(Lx.q4x ls i out).2.2=0->Lx.q4x ls i out=(out++ls.map Lx.j7n,(((i+ls.length:Nat):Int),0))
 | [],i,out,_=>by rw [Lx.q4x];simp
 | x::xs,i,out,h=>by
  rw [Lx.q4x] at h ⊢
  split
  ·rename_i hc
   rw [if_pos hc] at h
   rw [j5t xs (i+1) _ h]
   simp;omega
  ·rename_i hc
   rw [if_neg hc] at h
   cases h
def fauT (i e:Int):IV:=qn7 128 (.agg ⟨[.int .i64 i,Subtype.val (errT e)]⟩)
theorem jt5 (i e:Int):qz1 (fauT i e)=some (i,e):=rfl
theorem jva (i e:Int):q44 (Subtype.val (fauT i e))=some false:=rfl
theorem jrv (n:Nat):qlb n=q3i n:=rfl
theorem j3t (n:Nat) (ls:List (List UInt8)) (a2:Int) (hl:ls.length<=100001) (hx : ∀x∈ls,x.length<=100001) (hn:200000<n) :
  ∀(m j:Nat) (st:Int) (σ:MS),j<=ls.length->ls.length - j<m->0<=st->st+((tot (ls.drop j):Nat):Int)<=1000000->SB j σ ->
  match q1a (ls.drop j) (j:Int) st σ with
  | .inl e=>∃ y,q3i n m (ls.map Lx.j7n) a2 ls ((ls.length:Nat):Int) (j:Int) vbs σ.sd σ.mo σ.go a2 st σ.bk σ.rq σ.sw σ.ex σ.rt=some (Sum.inl ((j5b,(fauT e.1 e.2,())),y))
  | .inr σ'=>∃ st',q3i n m (ls.map Lx.j7n) a2 ls ((ls.length:Nat):Int) (j:Int) vbs σ.sd σ.mo σ.go a2 st σ.bk σ.rq σ.sw σ.ex σ.rt =
    some (Sum.inr (((a2,((),())),((vbs,(σ'.sd,((σ'.mo,(σ'.go,((),((),((),((),(a2,(st',(σ'.bk,((),())))))))))),()))),(σ'.rq,(σ'.sw,(σ'.ex,(σ'.rt,()))))))))
 | 0,j,st,σ,_,h,_,_,_=>absurd h (Nat.not_lt_zero _)
 | m+1,j,st,σ,hj,h,h0,ht,hs=>by
  rw [qkj]
  unfold qta
  by_cases c0:j<ls.length
  ·have c0':((j:Nat):Int)<((ls.length:Nat):Int):=by omega
   rw [List.drop_eq_getElem_cons c0] at ht ⊢
   rw [tot] at ht
   have hxj:=hx ls[j] (List.getElem_mem c0)
   have i2:q0z (ls.map Lx.j7n) (j:Int)=some (Lx.j7n ls[j]):=by
    rw [q0x (by rw [List.length_map];exact c0)];simp
   have hL:=j9e n σ (q15 ls[j]) a2 st ⟨h0,by omega⟩ (jqy _ hxj) (hs.mono (by omega)) hn
   rw [q1a]
   simp only [c0',decide_true,cond_true,q0x c0,i2,Option.bind_some]
   cases hr:q58 σ st (q15 ls[j]) with
   | inl e =>
    rw [hr] at hL
    obtain ⟨y,hy⟩:=hL
    unfold q15 at hy
    refine ⟨((),()),?_⟩
    rw [hy]
    rfl
   | inr σ' =>
    rw [hr] at hL
    unfold q15 at hL
    have hL':_=some (qbs,pk σ' a2 st vbs):=hL
    rw [hL']
    have e1:IntKind.wrap .i64 (((ls[j].length:Nat):Int)+1)=((ls[j].length:Nat):Int)+1:=wrap64 (by omega) (by omega)
    have e2:IntKind.wrap .i64 (st+(((ls[j].length:Nat):Int)+1))=st+((ls[j].length:Nat):Int)+1:=by rw [wrap64 (by omega) (by omega)];omega
    have ih:=j3t n ls a2 hl hx hn m (j+1) (st+((ls[j].length:Nat):Int)+1) σ' (by omega) (by omega) (by omega) (by omega) (jpb hs hr)
    simp only [pk,qin,Option.bind_some,Bool.not_true,cond_false,q05,e1,e2,q0a (show j<4611686018427387904 by omega)]
    exact ih
  ·have c0' : ¬ ((j:Nat):Int)<((ls.length:Nat):Int):=by omega
   simp only [c0',decide_false,cond_false]
   rw [List.drop_eq_nil_of_le (by omega),q1a]
   exact ⟨st,rfl⟩
theorem jh6 (n:Nat) (s:List UInt8) (hs:s.length<=100000) (hn:200000<n) :
  match qsn s with
  | .inl e=>qcw n s=none/\qgd n s=some (j5b,fauT e.1 e.2)
  | .inr (σ,k)=>∃ st',qcw n s=some (((),qbs),pk σ k st' vbs):=by
 unfold qsn qcw qgd
 obtain ⟨l1,l2⟩:=Lx.qfk s
 have l3:=jlz s
 rw [Lx.jtc n s hs (by omega)]
 by_cases h9:(Lx.q4x (Lx.q0p s) 0 []).2.2=0
 ·rw [if_neg (by simp [h9]),j5t _ _ _ h9]
  have hlp:=j3t n (Lx.q0p s) ((Lx.q0p s).length:Nat) (by omega) (fun x hx=>by have:=l2 x hx;omega) hn n 0 0 ms0 (Nat.zero_le _) (by omega) (Int.le_refl _) (by rw [List.drop_zero];omega) ⟨Nat.le_refl _,Nat.le_refl _,Nat.le_refl _,Nat.le_refl _⟩
  rw [show ((0:Nat):Int)=(0:Int) from rfl,List.drop_zero] at hlp
  simp only [Option.bind_some,decide_true,Bool.not_true,cond_false,j9a,Lx.jbt n s (show s.length<=1000000 by omega),List.nil_append,Nat.zero_add,jrv]
  cases hr:q1a (Lx.q0p s) 0 0 ms0 with
  | inl e =>
   rw [hr] at hlp
   obtain ⟨y,hy⟩:=hlp
   rw [show ms0.sd = [] from rfl,show ms0.mo = [] from rfl,show ms0.go = [] from rfl,show ms0.bk = [] from rfl,show ms0.rq = [] from rfl,show ms0.sw = [] from rfl,show ms0.ex = [] from rfl,show ms0.rt = [] from rfl] at hy
   rw [hy]
   exact ⟨rfl,rfl⟩
  | inr σ =>
   rw [hr] at hlp
   obtain ⟨st',hy⟩:=hlp
   rw [show ms0.sd = [] from rfl,show ms0.mo = [] from rfl,show ms0.go = [] from rfl,show ms0.bk = [] from rfl,show ms0.rq = [] from rfl,show ms0.sw = [] from rfl,show ms0.ex = [] from rfl,show ms0.rt = [] from rfl] at hy
   rw [hy]
   simp only [Option.bind_some,Sum.elim_inr]
   by_cases hb:σ.bk = []
   ·by_cases hm:σ.mo = []
    ·simp only [hb,hm,decide_true,Bool.not_true,cond_false,cond_true,ne_eq,not_true_eq_false,if_false,if_true]
     exact ⟨trivial,rfl⟩
    ·simp only [hb,hm,decide_true,decide_false,Bool.not_true,cond_false,ne_eq,not_true_eq_false,if_false]
     exact ⟨st',by rw [<-hb];rfl⟩
   ·simp only [hb,decide_false,Bool.not_false,cond_true,ne_eq,not_false_eq_true,if_true]
    exact ⟨trivial,rfl⟩
 ·rw [if_pos h9]
  simp only [Option.bind_some,decide_eq_false h9,Bool.not_false,cond_true]
  exact ⟨trivial,rfl⟩
theorem qrm (n:Nat) (s:List UInt8) (hs:s.length<=100000) (hn:200000<n):q5g n s=some (qcf s):=by
 have h:=jh6 n s hs hn
 unfold q5g qcf
 cases hr:qsn s with
 | inl e =>
  rw [hr] at h
  obtain ⟨h1,h2⟩:=h
  rw [h1,h2]
  simp only [quf,Option.bind_some,jva,Bool.not_false,cond_true,jt5]
 | inr x =>
  obtain ⟨σ,k⟩:=x
  rw [hr] at h
  obtain ⟨st',h1⟩:=h
  rw [h1]
  simp only [quf,qin,Option.bind_some,Bool.not_true,cond_false]
  rfl
end Go.Proofs.YtapfankgdkdkgaaGreatDoor.AM
