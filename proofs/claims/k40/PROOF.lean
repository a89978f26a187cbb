import PyProof.Rows.All
import Wide.All
import OpenK.AllK
import Wide.FinOn
import Lean
import PyProof.EqAt
import PyProof.EqKinds
import PyProof.TupleCall
import PySem.Str
import PyProof.ZipIter
import PyProof.Draws
import PyProof.StrLawsChain
import PyProof.StrLawsTight
import KE.KIntText
import OpenK.KTop
import PyProof.StationsW
import PyProof.ExcClass2
import PyProof.ExcBaseAll.ValueError
import PyProof.Rows.Catch
import OpenK.KOwn
import KE.KTryMore
import KE.FramesApart
import PyProof.RulesAs
import PyProof.NsDelKeeps
import PyProof.ExcArgs
import PyProof.Rows.SortStr
import KE.KDictSum
import PyProof.DictWalks
import PyProof.IsiH_list
import KE.KDictOf
import PyProof.NeKinds
import PyProof.StrCalls6
import PyProof.FString
import KE.KUnpack
import KE.KItemsList
import KE.KRevIter
import KE.IntBitsLaws
import PyProof.FString5
import PyProof.TupleKey
import Wide.Seal
import PyProof.Rows.SortShellK
import PyProof.DictRoadsH
import PyProof.Rows.SortRev
import PyProof.Rows.SetFrom
import PyProof.FactsAll.set_2
import PyProof.FactsAll.set_1
import PyProof.Rows.SortShell
import PyProof.Tail
import KE.KMinKey
import PyProof.ExcArgsOwn
import PyProof.ExcAttrAll.ValueError
import KE.KRevSl
import PyProof.FactsAll.dict_itemiterator_1
import PySem.Challenge.RW_askwright_k40_papers_of_names
set_option maxRecDepth 100000 in
structure PySem.W.Fast:Prop where(tw11419966778045536789 tw5830081628507245140 tw12255099998709294336 tw6245341898904093755 tw16379786773685478679 tw2819078701878856409 tw5365060262697211808 tw16024043713498261816 tw8185445922609370975 tw7889628352991165686 tw11685137770926045539 tw7811902406766298089 tw7762094303286700600 tw16337728766263005475 tw7942550359842679778 tw4838093356484593448 tw336115984850136074 tw777123478366745818 tw13857087103543480616 tw9723472805769816222 tw1305928708588719067 tw2506816440709096294 tw555039467319239100 tw6050070815774032026 tw18333161320362092976 tw5053853063750984695 tw8631486043336251024 tw17898802599217933379 tw13755805745828312224 tw12524081119032549039 tw1635472273330229880 tw17589901891955191023 tw6600325103395150453 tw10517526035633877567 tw12336237254701272937 tw7565294608558969690 tw18244928797772644439 tw6338616265894127655 tw16028215599346361208 tw9343091362886991384 tw719177523707552756 tw2755149875664944959 tw18120682146592864306 tw1791711558313622497 tw12173768371461298030 tw12798035505625500684 tw10653017132262048262 tw1537500045224709349 tw13624798231021865387 tw1983805001536427212 tw17640468854975792659 tw6118544330443679546 tw10576166782906723067 tw15107354659186106819 tw13071380248646712737 tw16198750049957324919 tw1222991003611810474 tw10515707763739608139 tw18276985019784461006 tw1625256700035877748 tw340737572349886381 tw9268487594869413646 tw262330052445126447 tw7247279725983646065 tw11794294046051824635 tw8939196694786454113 tw8622958185522045277 tw469042597707018810 tw1528780921286976302 tw122736291370242155 tw6658451842948016416 tw2335668701972054134 tw4744809412849608937 tw15380761318121057071 tw12605592477677665121 tw7182017957259469727 tw13801532226606622777 tw10999513519530294641 tw10383802264764198558 tw17033486091011700939 tw12168455681091081573 tw6430584322178763315 tw99051038562831511 tw9291139196097625149 tw14032380121848896718 tw12782004984132514146 tw16762264729228381316 tw4154397897567114262 tw4068582765169785422 tw14250420498149136595 tw11421095316272205175 tw10473915721789778733 tw13261864855082239943 tw8727504630480286197 tw10976053187274447388 tw10480565346236587195 tw11741480727985984131 tw9705440678130007677 tw10357468551584585613 tw6745534395982256439 tw7268791339190360502 tw10178623730469314849 tw5485074860260931954 tw182287558831134280 tw17286866898827827157 tw9517772392168525542 tw516796803342512370 tw17976228239841925626 tw7493621346270349801 tw6246366974040349921 tw13420968547715021007 tw4825299420848756074 tw17819336574974378769 tw15771030924137873596 tw3215768006762851613 tw13564446612380418970 tw2862327010959456267 tw15406633018847116005 tw5172745146287731539 tw13285047110206758633 tw6778265592537254854 tw17127931989638062293 tw6913644350970133695 tw1900079595691434938 tw11350671712155566559 tw18180702753595370125 tw18183455933422007313 tw16702411509465700885 tw8991279782292884784 tw10850714347019181498 tw16688741616795980558 tw16437926076215378599 tw7286352607886143360 tw13716933640590831951 tw11880323215088806168 tw9111554558928853550 tw10145044585123507790 tw15693841403844021774 tw5016524379992866486 tw6768532366976208231 tw17195610879883089615 tw9955240846218914596 tw93530071854201282 tw11973997079842574032 tw18239879593168561174 tw6564648351783831301 tw8180358477419215056 tw15838496941780756247 tw15619839071520608446 tw9514154560030462158 tw1555875050990897776 tw4030547991134670407 tw13094520911428143896 tw4985495005305019385 tw7519581591202692285 tw7185452397079985956 tw14850123795709307897 tw4017388804265553816 tw16724362539476975076 tw6338435943904958660 tw2662634642871038409 tw15644020642204704628 tw12038924490441089949 tw4213926250929822906 tw6111495843578518373 tw5522174200170203438 tw13283178235359767124 tw3289505204860156213 tw10032656555008870016 tw9064569862534782409 tw757523352412310522 tw15461151639395056600 tw1311670903195802045 tw11201716447895367423 tw10511180235258393538 tw16457768311449452844 tw12188311725523246425 tw3468868766089558265 tw16064628187290306389 tw12109720587749577345 tw16894245027170210266 tw11089264590781280638 tw11835892751422203292 tw9968799621109014146 tw18300945163537954515 tw288566787467562171 tw12101497194703321479 tw2259005466296479708 tw5599981071132488388 tw4367277276771172477 tw17254137793536362405 tw13482367151917903430 tw14765608658707566526 tw11714934908103107520 tw757335585269550049 tw15406033221418476783 tw2039947963585164744 tw6153628636863123112 tw4379133874144331482 tw14222004841087032181 tw3729998599508994343 tw17249994726298547817 tw10247833999786935785 tw9094191754541483598 tw8447811575855940523 tw1103868032189616512 tw17061933599643244535 tw1631599560289919825 tw4989019542254086410 tw4954522674366553584 tw14144689723972388448 tw7907385622524020459 tw3838216698136755946 tw13070187444473766844 tw9482141893216932706 tw16900826092856989828 tw14005026328337872489 tw3038149014566812560 tw6065608310160654083 tw7089299451594494752 tw8040531713521193039 tw7966630550079814468 tw309005771108723816 tw4921361718718198056 tw5509213005258491791 tw4343357899079168457 tw8496456439385525641 tw5720987565619631338 tw10402684985936067427 tw3377100734250214223 tw15610171142275153741 tw8809435376475690570 tw6283437940415305917 tw8698171095091189709 tw15902660182001979529 tw7443175182768749881 tw4580896044832837337 tw12305319297762390271 tw9849176348808098408 tw7999596922732094153 tw1355658755313541605 tw763228544917374381 tw6116963842876820968 tw18432327074755858212 tw15361866901597841462 tw5135296357210331759 tw6267342361084401566 tw5061365425349951141 tw14255731214550721250 tw4585100922519850256 tw15832268386604910191 tw12224155889810241173 tw6364121881953596437 tw1906848908912008371 tw9259966152588785457 tw17300708207513390829 tw17774339601827301409 tw4001809228862972884 tw16364140776678275371 tw13426912881183741776 tw3852967242353995039 tw9619586552383540671 tw4394481271455115433 tw11758967999224052821 tw3898262711264438714 tw1117168320676899887 tw8068224963397242759 tw10618327542416453984 tw16160639847027132706 tw17573337446744804707 tw13299578334983309149 tw2975624830653677651 tw8456992808872758598 tw14559053435093163143 tw15515306814265020344 tw9435784926912124645 tw5129056650993221066 tw10123927812927520058 tw5005560268001000921 tw770950835578159254 tw527097119123371177 tw9902974291448785536 tw7447239214679185750 tw16330566042094098512 tw11458198917177837596 tw14322046803337411085 tw14736990261043479488 tw10581096958129305477 tw17624846117572220947 tw7907655686726154990 tw11245202732402658897 tw6332522974590822790 tw12767157320914487734 tw15562565222358673331 tw17473806908582880643 tw358184540657128251 tw2184482047786467091 tw12878210323095465154 tw15683890608974408497 tw6847813973534290500 tw13016286828168713811 tw4022399845832885258 tw4115413871306211 tw728253893231306637 tw10014973346618565216 tw10257699309656313653 tw16121189373738589393 tw14418137218145590719 tw15976209043309371703 tw6317619314011651133 tw12262270186258437107 tw14441992347640218786 tw1531005332190544207 tw12833808412489765390 tw7320653847493293377 tw5486063308795630690 tw325848117090701172 tw14643274907035511791 tw825886065759038882 tw14629317558393954775 tw4030412371367619398 tw16415843485099425473 tw8154223884516180346 tw5391883697724908238 tw8450558020580377712 tw16291228070008559643 tw16943545993401227396 tw8117078528392259882 tw6692005007273452338 tw2563362946228727179 tw16058879831013971352 tw15869610423030015997 tw3582219174841763319 tw7048402916582369176 tw13648332224239750934 tw11086698059331660331 tw11889202841895846790 tw18240902601341791482 tw17688029167954031290 tw7632769727307024480 tw17259373484258767231 tw4559692594605704326 tw486075751437084524 tw10437512386883041956 tw14983898185032501417 tw1773139263701803798 tw3569732075303909591 tw11267437655551163947 tw2380749867810966990 tw12847559934967212036 tw5650295181657763272 tw9032031885951559234 tw12976865429736881985 tw13279068348831276059 tw10592939869061946881 tw13164148776741058030 tw3961425101838035627 tw16174893842519934116 tw11026721311511513435 tw17747102639901526756 tw17117487744927935489 tw13034727636031798556 tw16656339497866848033 tw17840913620176367056 tw4096531440293124144 tw15304408406438465224 tw10059669576667656372 tw5613519828868812885 tw3954189729049829811 tw15762359668401433422 tw17180233882741230887 tw15034351185797908513 tw169184196552610778 tw3326553526305675622 tw9677302656498300275 tw5466510201037488631 tw17469273726347710212 tw4008027454045326809 tw2617538385253189799 tw6545999474929366654 tw12026397643910991437 tw11219003487107945356 tw3758180702742344658 tw2066339340281821108 tw7302403563135807447 tw9455128892938154987 tw7638883289942306545 tw10785501562119690615 tw13037263845287746727 tw5819402382622617523 tw7666438062766949770 tw7788680554897797645 tw11192742951700362676 tw10555343739445560478 tw6344308333402696806 tw7956653878363573052 tw2403133576523908818 tw6000384610980202537 tw4834008975050547617 tw2768184356755657720 tw9808405384697880759 tw15024958532132526324 tw894039494883841153 tw1686814479679026569 tw17900346854821716341 tw14903087525822247105 tw3658815607017122709 tw783178833306985291 tw270633862918625749 tw17252363463287041474 tw10088713017524070452 tw7727297672291771244 tw5044558441485945471 tw12745047782435253012 tw6753614625710325368 tw5155863968774278465 tw12717356194079465823 tw623147295711514344 tw14824925150635840013 tw9950666526651596447 tw11150404205471847236 tw14640792897969294730 tw13394229726813837232 tw15357474308804345277 tw5654524967804927446 tw14289671264276067462 tw12221933619824568404 tw12182036789645835230 tw4599028438860299725 tw9495876056465409337 tw3695975266428337810 tw16341915897694620170 tw17584234211634633460 tw3157953757199098735 tw17833807782402652425 tw5648315341718980938 tw5622553406068247483 tw3411931449485631952 tw13082949438023972851 tw8131634198213344501 tw18296324258658377185 tw17064369728848090613 tw12492716919482994375 tw5950456922524002999 tw1603718708766412988 tw5331204115798567735 tw11043360462589211056 tw10468220274959157425 tw6338543254369398510 tw4554575337425079409 tw11634740953213265408 tw15813598565361694045 tw6829478120452335622 tw15183718891874549188 tw14378831308834096028 tw15333906228896489948 tw10333181737075227174 tw14202586191873750262 tw6510069939568123852 tw1395661405933229426 tw5779148860354521730 tw14229848536113467986 tw18386143078602334404 tw522061099803632090 tw16211674926305862406 tw1786943334668395008 tw10239669135773928131 tw11167755590114598527 tw12600782323983987809 tw12831349432752420793 tw6763312697328654048 tw14473333202385628302 tw5813487313901755830 tw14421439133990960342 tw8730027646562110944 tw13545751881213626838 tw5967453371131328406 tw2223026777931805521 tw2830096149287664543 tw13682220947112931028 tw11757377249299918579 tw9179505797759204105 tw5753675161645671324 tw13099816925583761105 tw9150008980765971964 tw7519793646752033632 tw14156166124267698465 tw11320069828755245663 tw13626549085503267879 tw244971181961838698 tw9539763286409361362 tw15229754967992754456 tw2513396910897095048 tw10488460904839545350 tw16594043032769330025 tw12239853821340470028 tw5796775888790383426 tw8366753859335785690 tw17471397271631066433 tw6881698003404535946 tw10286372354777342569 tw7410516099392656086 tw7615557212469174595 tw12339737996599245677 tw18031869942639599369 tw15852904775285229972 tw8300094838388263002 tw3678854202291014934 tw4608501322011438643 tw14375524774900244758 tw13555940440850874522 tw10530724136092056660 tw14112164402595676265 tw13870526929072914884 tw16353395829950761790 tw10370436910537974306 tw12662232525363800130 tw5060313720373691467 tw498315916523140522 tw7430558573271148441 tw13079699562254825840 tw8902053796098350746 tw1054093853249077403 tw3879861751542157080 tw14319421354247513640 tw1042948208445632668 tw8231059621105470633 tw14766162777397895153 tw1862147947775494520 tw4223543215113492548 tw11986504849212819003 tw2888839001930292420 tw17136758774562000486 tw9774681577769824393 tw17397574395042403109 tw8046222935403113438 tw15915806970736239675 tw10593859056574295701 tw10516677706928654607 tw14102184065016338068 tw9678391777948782317 tw696580077577897528 tw5792427773181742549 tw16689960734336746295 tw5456716552742552287 tw2133739985184701366 tw3768763255968767951 tw554199655848236239 tw8938083326306903648 tw1158236955189514447 tw8449228639801120505 tw13911967247284866703 tw16476234048353755799 tw720656297183828344 tw8630171150651250119 tw1310967323625130569 tw16911539260076829929 tw12771522628180610623 tw373652552306377525 tw1293511332066032415 tw276918882384039617 tw11154746368222542689 tw8928330588453725901 tw11238983000221574225 tw732754452884669958 tw8551656733948753922 tw9513850076775202667 tw10338287631238507534 tw2235772431552009278 tw5303841961798026303 tw5061786911541248781 tw3092090980830254305 tw1845885239464277596 tw4646748263751087896 tw16958985105650357538 tw18314781814797097655 tw4907602582436909340 tw16396162333331784561 tw11962975561912159444 tw12772657278166828559 tw3081274451827436152 tw9154193527632985137 tw6225398483027616997 tw2312126940897938956 tw972687534662634036 tw941667034483541098 tw4466242200337631948 tw4174313437399474458 tw2665795576601764044 tw13136330637367415273 tw4068398913101414590 tw5661422732143865496 tw7760804304528374265 tw9181690060550131287 tw9928686347114214497 tw7031708918887885160 tw16643588211255079688 tw17827460052509323788 tw16091551059149393592 tw2512331470911864754 tw1940232250060922606 tw5543986668083479862 tw9950778587707929987 tw8029129789554633041 tw17021796848649779732 tw2302410630751878244 tw11784888274803207364 tw13869554781947374804 tw5844240106993359493 tw516225333220418828 tw11770911748501415442 tw17808457995663009093 tw3659825944969771365 tw2748264443376676883 tw13825801037568493373 tw18015362093307288977 tw7365964351158227334 tw13580069057583822805 tw9879369485247830918 tw7763104299357347206 tw9004952257189293940 tw11505819968362371030 tw583728359940751167 tw4155544991215364028 tw18039573673520099630 tw17407824049720387300 tw9564495181349465243 tw12574951367481226703 tw6667752710891366691 tw14090710459916919640 tw1254307807264459209 tw5434639443741820700 tw10962835789425832388 tw6674047319989600584 tw17629793185242715094 tw10591449286496174863 tw8222723428122650374 tw10362031557013140738 tw12501545512141085963 tw4385803263131323125 tw13840366413235189024 tw10187799666973936230 tw10430309602096588244 tw75089090271656000 tw13181012874030875449 tw7728772548787809115 tw2221336102717624337 tw3797242027408745941 tw4358922615449494370 tw15601403726076460596 tw9808581473881281237 tw5519639189489248319 tw7810837288211854116 tw12978042529473633260 tw16946346598963663522 tw11587763061238664430 tw2074594454799590186 tw3229222290383811743 tw18077053356934096011 tw2351496314990080733 tw11991698519761739919 tw1910882141897947188 tw7907723835580541334 tw5079327943859190475 tw17092776948537388064 tw13730584926610237996:True)
set_option compiler.extract_closed false
local macro_rules | `(tactic| trivial) => `(tactic| first | rfl | exact .inl rfl | exact .inr rfl | exact .inr (.inl rfl) | decide +kernel | (intro _; rfl) | omega | exact ⟨rfl,rfl,rfl,by decide +kernel,rfl,by decide +kernel,by decide +kernel⟩ | (intro _ _ _ _ _ _ us hl; rcases us with _|⟨_,_|⟨_,_|⟨_,_|⟨_,_|⟨_,_|⟨_,_⟩⟩⟩⟩⟩⟩ <;> first | rfl | cases hl) | (intro _ _ _ _ h; repeat' first | (obtain ⟨e,_⟩ := h; subst e; rfl) | (obtain ⟨_,h⟩ := h)))
set_option hygiene false in
local macro_rules | `(tactic| ac_rfl) => `(tactic| ((try dsimp only);first|assumption|exact Inv.tk (by assumption)|exact Nat.succ_pos _|exact Nat.lt_of_lt_of_le (Inv.tk (by assumption)) (by assumption)|exact Nat.add_pos_left (Inv.tk (by assumption)) _|omega))
local macro_rules | `(()) => `(by trivial)
local macro_rules | `(#[$f:ident,$n:num,$xs,*]) => do let h ← `(_); let b ← `(by trivial); let mut a := Array.replicate n.getNat h; for x in xs.getElems do { match x.raw.isNatLit? with | some k => a := a ++ Array.replicate k h | none => a := a.push (if x.raw.isOfKind ``Lean.Parser.Term.hole then b else x) }; `(@$f $a*)
local macro_rules | `(⟨$xs,*⟩) => do let h ← `(_); let r ← `(rfl); let mut a := #[]; let mut c := false; for x in xs.getElems do { match x.raw.isNatLit? with | some 0 => { a := (a.push h).push r; c := true } | some _ => { a := a.push r; c := true } | none => a := a.push x }; if c then `(⟨$a,*⟩) else Lean.Macro.throwUnsupported
set_option hygiene false in
local macro_rules | `(tactic| rfl') => `(tactic| first | exact bo1 (fun _ _ _ _ _ _ _ => rfl) | exact bo2 (fun _ _ _ _ _ _ _ _ => rfl) | exact bo3 (fun _ _ _ _ _ _ _ _ _ => rfl) | exact bo4 (fun _ _ _ _ _ _ _ _ _ _ => rfl))
noncomputable section
set_option Elab.async false
set_option linter.all false
set_option maxRecDepth 100000
set_option maxHeartbeats 4000000
abbrev o0:=PySem.W.Frag
abbrev o3:=PySem.Addr
abbrev o6:=PySem.Value
abbrev o7:=PySem.Shared
abbrev o8:=PySem.Heap
abbrev o9:=PySem.Program
abbrev og:=PySem.World
abbrev oh:=PySem.Around
abbrev oj:=List
abbrev om:=Option
def u8:=@Bool.false_ne_true
def u9:=@List.length_map
def ua:=@PySem.Heap.get?_push_of_some
def ub:=@List.mem_cons_of_mem
def uc:=@decide_eq_true
def ud:=@List.mem_cons_self
def ue:=@decide_eq_false
def uf:=@List.getElem?_eq_getElem
def ug:=@Nat.le_refl
def uh:=@of_decide_eq_true
def ui:=@List.length_cons
def uj:=@List.size_toArray
def um:=@PySem.wpAny_pure
def uq:=@List.map_cons
def ur:=@Bool.and_eq_true
def uu:=@List.map_append
def uw:=@PySem.Heap.lt_size
def uz:=@PySem.Heap.get?_push_size
def uA:=@PySem.sizeLine_eq
def uB:=@List.mem_cons
def uC:=@List.not_mem_nil
def uD:=@List.length_append
def uE:=@Option.some.inj
def uF:=@List.getElem?_map
def uG:=@List.map_map
def uH:=@PySem.W.mg_of
def uI:=@Nat.ne_of_lt
def uJ:=@PySem.boot_len
def uK:=@PyProof.Rows.boot_isinstance
def uL:=@List.mem_append_right
def uM:=@or_false
def uN:=@PySem.wpAny_with_toks
def uO:=@PySem.F.plainAttrs_str
def uP:=@PySem.Around.in1_units
def uQ:=@Nat.le_trans
def uR:=@decide_eq_decide
def uS:=@List.mem_of_getElem?
def uT:=@List.getElem_mem
def uU:=@decide_eq_true_eq
def uV:=@List.find?_cons
def uW:=@Nat.zero_le
def uX:=@Array.length_toList
def uY:=@PySem.F.plainAttrs_list
def uZ:=@List.lookup_cons
def v5:=@List.mem_nil_iff
def v6:=@PySem.PassesOwn.never
def v7:=@List.drop_eq_getElem_cons
def v9:=@List.take_of_length_le
def vb:=@PySem.W.kia_one
def vc:=@PySem.wpAny_truthy_bool
def vd:=@PySem.wpAny_newObj_type
def vf:=@PyProof.Rows.boot_tuple
def vg:=@PySem.wpAny_mono
def vh:=@PySem.Heap.size_push
def vi:=@List.all_cons
def vj:=@PySem.F.entry_str_split
def vk:=@PySem.wpAny_field
def vm:=@PySem.wpAny_callSpecial?_slot
def vn:=@List.length_take
def vo:=@PySem.F.slot_str_split
def vq:=@PySem.mem_of_lookup
def vt:=@PyProof.Rows.slot_tuple_getitem
def vv:=@List.take_add_one
def vw:=@Nat.lt_irrefl
def vx:=@Bool.eq_iff_iff
def vy:=@PySem.typeIs_str
def vz:=@PySem.call_meets
def vA:=@PySem.wpAny_call_entry
def vB:=@List.filter_cons
def vC:=@List.mem_append_left
def vD:=@List.filterMap_cons
def vE:=@PyProof.Rows.callWith_type1
def vF:=@PySem.Calls.callWith_builtin
def vG:=@List.getElem?_append_right
def vH:=@PySem.F.slot_tuple_iterator_next
def vI:=@List.length_drop
def vJ:=@Bool.false_eq_true
def vK:=@List.length_singleton
def vL:=@Bool.and_true
def vM:=@PySem.F.args_str_split_2
def vN:=@PySem.F.slot_str_join
def vO:=@PySem.F.type_str_join
def vP:=@List.mem_of_find?_eq_some
def vQ:=@PySem.wpAny_passesOwn
def vR:=@List.append_nil
def vS:=@List.filterMap_cons_some
def vT:=@PySem.F.slot_list_append
def vU:=@PySem.F.type_list_append
def vV:=@List.map_congr_left
def vW:=@List.eq_nil_of_length_eq_zero
def vX:=@List.all_eq_true
def vY:=@PySem.wpAny_seqItems
def vZ:=@List.nodup_nil
def U0:=@Ne.symm
def U1:=@List.getElem?_set_self
def U2:=@List.drop_of_length_le
def U3:=@PySem.F.slot_str_split
def U4:=@PySem.F.type_str_split
def U5:=@PySem.wpAny_Call_Name_kw
def U6:=@PySem.W.callWith_K
def U7:=@PySem.tupleKind_room_in1
def U8:=@PySem.wpAny_setField_rec
def U9:=@List.find?_eq_none
def Ua:=@List.mem_singleton
def Ub:=@Sum.inr.inj
def Uc:=@PySem.wpAny_execs_nil
def Ud:=@Nat.ne_of_gt
def Ue:=@List.forIn_cons
def Uf:=@List.map_nil
def Ug:=@List.any_cons
def Uh:=@List.sum_cons
def Ui:=@List.getElem?_set_ne
def Uj:=@PySem.Calls.evalArgs_plain
def Uk:=@List.getElem?_append_left
def Ul:=@List.cons_append
def Um:=@List.take_length
def Uo:=@PySem.F.args_tuple_add_2
def Up:=@List.all_map
def Uq:=@PySem.SeqAt.EqAt.int_str
def Ur:=@PySem.SeqAt.EqAt.str_int
def Us:=@PySem.F.entry_tuple_add
def Ut:=@PySem.F.plainAttrs_dict
def Uu:=@Nat.lt_of_le_of_lt
def Uv:=@List.all_append
def Uw:=@PySem.wpAny_attempt
def Ux:=@List.cons.injEq
def Uy:=@PyProof.Rows.boot_str
def Uz:=@List.getLast?_cons_cons
def UA:=@Int.emod_lt_of_pos
def UB:=@List.nodup_cons
def UC:=@PySem.wpAny_pyIter_list
def UD:=@PySem.wpAny_rule
def UE:=@PySem.SeqAt.RcAt.tuples
def UF:=@List.reverse_cons
def UG:=@Nat.le_of_lt
def UH:=@PySem.wpAny_isInstance
def UI:=@Nat.le_add_right
def UJ:=@if_false
def UK:=@not_or
namespace L2
open PySem PySem.Spec PyProof.Rows
abbrev Key:=Sum Int Str
def keyIs:Key->o6->Bool
 | .inl k,v=>Value.isInt k v
 | .inr x,v=>Value.isStrOf x v
def keyH (w:og):Key->Int
 | .inl k=>hashInt k
 | .inr x=>hashStr w x
theorem Ql:∀{k:Key}{v:o6},keyIs k v=true->(∃i t,k=Sum.inl i/\v=Value.int i t)∨(∃x t,k=Sum.inr x/\v=Value.str x t)
 | .inl i,v,h=>by
  obtain⟨t,e⟩:=Value.isInt_shape (k:=i) (v:=v) h;exact .inl ⟨i,t,1,e⟩
 | .inr x,v,h=>by
  obtain⟨t,e⟩:=Value.isStrOf_shape (x:=x) (v:=v) h;exact .inr ⟨x,t,1,e⟩
theorem keyIs_int (i:Int)(t:Tok):keyIs (.inl i) (.int i t)=true:=by simp [keyIs,Value.isInt]
theorem keyIs_str (x:Str)(t:Tok):keyIs (.inr x) (.str x t)=true:=by simp [keyIs,Value.isStrOf]
theorem key_ll (a b:Int):decide ((Sum.inl a:Key)=Sum.inl b)=(a==b):=by
 by_cases e:a=b
 ·subst e;simp
 ·have h:¬(Sum.inl a:Key)=Sum.inl b:=λq=>e (Sum.inl.inj q);rw [ue h];exact(beq_eq_false_iff_ne.mpr e).symm
theorem key_rr (a b:Str):decide ((Sum.inr a:Key)=Sum.inr b)=decide (a=b):=by
 by_cases e:a=b
 ·subst e;simp
 ·have h:¬(Sum.inr a:Key)=Sum.inr b:=λq=>e (Ub q);rw [ue h,ue e]
theorem key_lr (a:Int)(b:Str):decide ((Sum.inl a:Key)=Sum.inr b)=false:=ue (λq=>nomatch q)
theorem key_rl (a:Str)(b:Int):decide ((Sum.inr a:Key)=Sum.inl b)=false:=ue (λq=>nomatch q)
def Qd (prog:o9)(w:og):PySem.KeyKind prog w Key where
 is:=keyIs
 hash:=keyH w
 inj:=λv a b ha hb=>by
  rcases Ql ha with⟨i,t,rfl,rfl⟩|⟨x,t,rfl,rfl⟩
  ·rcases Ql hb with⟨j,u,rfl,e⟩|⟨y,u,rfl,e⟩
   ·injection e with e1 _;rw [e1]
   ·exact nomatch e
  ·rcases Ql hb with⟨j,u,rfl,e⟩|⟨y,u,rfl,e⟩
   ·exact nomatch e
   ·injection e with e1 _;rw [e1]
 byValue:=λk v h=>by
  rcases Ql h with⟨i,t,rfl,rfl⟩|⟨x,t,rfl,rfl⟩<;>rfl
 pyHash:=λhv h=>by
  rcases Ql hv with⟨i,t,rfl,rfl⟩|⟨x,t,rfl,rfl⟩
  ·exact wpAny_pyHash_int h
  ·exact wpAny_pyHash_str h
 eqBool:=λhu hv h=>by
  rcases Ql hu with⟨i,t,rfl,rfl⟩|⟨x,t,rfl,rfl⟩
  ·rcases Ql hv with⟨j,u,rfl,rfl⟩|⟨y,u,rfl,rfl⟩
   ·rw [key_ll] at h;exact wpAny_eqBool_int h
   ·rw [key_lr] at h;exact Uq i t y u _ _ _ _ h
  ·rcases Ql hv with⟨j,u,rfl,rfl⟩|⟨y,u,rfl,rfl⟩
   ·rw [key_rl] at h;exact Ur x t j u _ _ _ _ h
   ·rw [key_rr] at h;exact wpAny_eqBool_str h
 «strs»:=λk x t v h=>by
  rcases Ql h with⟨i,u,rfl,e⟩|⟨y,u,rfl,e⟩
  ·exact nomatch e
  ·injection e with e1 _
   subst e1
   cases v<;>rfl
theorem mixKind_int (prog:o9)(w:og)(i:Int)(t:Tok):(Qd prog w).is (.inl i) (.int i t)=true:=keyIs_int i t
theorem ZH (prog:o9)(w:og)(x:Str)(t:Tok):(Qd prog w).is (.inr x) (.str x t)=true:=keyIs_str x t
inductive V where
 |non|bl (b:Bool)|int (i:Int)|str (x:Str)|byt (b:Array UInt8)|flt (b:UInt64)|ref (a:Addr)|ty (n:String)
 deriving DecidableEq
def RelV:V->o6->Prop
 | .non,u=>u=Value.none
 | .bl b,u=>u=Value.bool b
 | .int i,u=>∃t,u=Value.int i t
 | .str x,u=>∃t,u=Value.str x t
 | .byt b,u=>∃t,u=Value.bytes b t
 | .flt b,u=>∃t,u=Value.float b t
 | .ref a,u=>u=Value.ref a
 | .ty n,u=>u=Value.type n
abbrev Vals:oj V->oj o6->Prop:=Paired RelV
theorem Vals.length {xs:oj V}{us:oj o6}(r:Vals xs us):xs.length=us.length:=Paired.length r
theorem Vals.get:∀{xs:oj V}{us:oj o6}{i:Nat}{x:V},Vals xs us->xs[i]? =some x->∃u,us[i]? =some u/\RelV x u
 |_,_,_,_,.nil,e=>by simp at e
 |_,_,0,_,.cons r _,e=>by simp at e;subst e;exact⟨0,r⟩
 |_,_,i+1,x,.cons _ t,e=>by
  obtain⟨u,h1,h2⟩:=Vals.get (i:=i) (x:=x) t (by simpa using e)
  exact⟨u,by simpa using h1,h2⟩
theorem Vals.set {x:V}{u:o6}(r:RelV x u):∀{xs:oj V}{us:oj o6} (i:Nat),Vals xs us->Vals (xs.set i x) (us.set i u)
 |_,_,_,.nil=> .nil
 |_,_,0,.cons _ t=> .cons r t
 |_,_,i+1,.cons q t=> .cons q (Vals.set r i t)
theorem Vals.append:∀{xs ys:oj V}{us ws:oj o6},Vals xs us->Vals ys ws->Vals (xs++ys) (us++ws)
 |_,_,_,_,.nil,s=>s
 |_,_,_,_,.cons r t,s=> .cons r (Vals.append t s)
theorem Vals.take:∀{xs:oj V}{us:oj o6} (n:Nat),Vals xs us->Vals (xs.take n) (us.take n)
 |_,_,0,_=> .nil
 |_,_,_+1,.nil=> .nil
 |_,_,n+1,.cons r t=> .cons r (Vals.take n t)
theorem Vals.drop:∀{xs:oj V}{us:oj o6} (n:Nat),Vals xs us->Vals (xs.drop n) (us.drop n)
 |_,_,0,r=>r
 |_,_,_+1,.nil=> .nil
 |_,_,n+1,.cons _ t=>Vals.drop n t
def RelO:om V->om o6->Prop
 |some v,some u=>RelV v u
 |none,none=>True
 |_,_=>False
def KV {κ:Type}:oj (κ×V)->oj (κ×o6)->Prop:=Paired λ(p:κ×V) (q:κ×o6)=>p.1=q.1/\RelV p.2 q.2
def kV:Key->V
 | .inl i=> .int i
 | .inr x=> .str x
inductive HO where
 |lst (xs:List V)
 |tup (xs:List V)
 |dK (kvs:List (Key×V))|dT (kvs:List (List Key×V))
 |set (S:Int->Bool) (n:Nat)
 |ins (C dx:Addr) (fs:List (Str×V))
 |own (x:Addr)
 |xd (fs:List (Str×V))
 |met (f x:Addr)
 |rng (lo hi:Int)
 |frz (o:Obj) (u:HO)
 |tbl (ps:Array Value)
 |ext (φ:Heap->Prop)
abbrev Hp:=o3->om HO
def upd (H:Hp)(a:o3)(o:HO):Hp:=λb=>if b=a then some o else H b
theorem qf {H:Hp}{a:o3}{o:HO}:upd H a o a=some o:=by unfold upd;rw [if_pos rfl]
theorem qh {H:Hp}{a b:o3}{o:HO}(h:b≠a):upd H a o b=H b:=by unfold upd;rw [if_neg h]
theorem ne_of {H:Hp}{a b:o3}{o u:HO}(h:H a=some o)(h':H b=some u)(d:o≠u):a≠b:=by
 intro e;subst e;rw [h] at h';exact d (uE h')
theorem qj {H:Hp}{a b:o3}{o:HO}(h:H a=some o)(h':H b=none):a≠b:=by
 intro e;subst e;rw [h] at h';cases h'
section
variable (P:o9)(w:og)
def QJ (H:Hp)(h:o8)(a:o3):HO->Prop
 | .lst xs=>xs.length<=sizeLine/\∃(its:oj o6) (n:Nat),Vals xs its/\h.get? a=some {cls:= .type "list",data:= .seq its.toArray n}
 | .tup xs=>xs.length<=sizeLine/\∃its:oj o6,Vals xs its/\IsTup h a its.toArray
 | .dK kvs=>kvs.length<=sizeLine/\(a==sysModules)=false/\∃vs,KV kvs vs/\h.DictOf (Qd P w) a vs
 | .dT kvs=>kvs.length<=sizeLine/\(a==sysModules)=false/\∃xs:oj (oj Key×o3×o6),
   Paired (λ(p:oj Key×V) (q:oj Key×o3×o6)=>p.1=q.1/\H q.2.1=some (.tup (p.1.map kV))/\RelV p.2 q.2.2) kvs xs/\
   ∃o es ep,h.get? a=some o/\o.ExactDict/\o.data= .dict es ep/\es.toList=xs.map (entryOfKey (tupleKind (Qd P w)))/\(xs.map (·.1)).Nodup
 | .set S n=>h.SetOf (intKind P w) a S n
 | .ins C dx fs=>H dx=some (.own a)/\fs.length<=1000/\dx≠a/\h.get? a=some (PySem.W.instObj C dx)/\
   ∃mA,h.Ns1 dx mA/\(∀f,RelO (fs.lookup f) (mA f))/\PySem.Within mA (fs.map (·.1))
 | .own _=>∃o,h.get? a=some o
 | .xd fs=>∃mA,h.Ns1 a mA/\∀f,RelO (fs.lookup f) (mA f)
 | .rng lo hi=>∃t u v,h.get? a=some {cls:= .type "range",data:= .fields #[.int lo t,.int hi u,.int 1 v]}
 | .frz o u=>h.get? a=some o/\QJ H h a u
 | .tbl ps=>h.get? a=some {cls:= .none,data:= .fields ps}
 | .met f x=>h.get? a=some (PySem.W.methodObj (.ref f) (.ref x))
 | .ext φ=>φ h/\(∃o,h.get? a=some o)/\∀h1 h2:o8,φ h1->(∀o,h1.get? a=some o->h2.get? a=some o)->φ h2
def HOk (H:Hp)(h:o8):Prop:=∀a o,H a=some o->QJ P w H h a o
end
section
variable {P:o9}{w:og}{H H':Hp}{h h':o8}{a:o3}{o:HO}
theorem QJ.lt (x:QJ P w H h a o):a<h.objs.size:=by
 cases o with
 |lst xs=>obtain⟨_,_,_,_,e⟩:=x;exact uw e
 |tup xs=>obtain⟨_,_,_,p⟩:=x;exact p.lt
 |dK kvs=>obtain⟨_,_,_,_,o,_,_,e,_⟩:=x;exact uw e
 |dT kvs=>obtain⟨_,_,_,_,o,_,_,e,_⟩:=x;exact uw e
 |set S n=>obtain⟨o,_,_,_,e,_⟩:=x;exact uw e
 |ins C dx fs=>obtain⟨_,_,_,e,_⟩:=x;exact uw e
 |own y=>obtain⟨_,e⟩:=x;exact uw e
 |xd fs=>obtain⟨_,⟨_,_,_,e,_⟩,_⟩:=x;exact uw e
 |rng lo hi=>obtain⟨_,_,_,e⟩:=x;exact uw e
 |frz ob u=>obtain⟨e,_⟩:=x;exact uw e
 |tbl ps=>exact uw (show h.get? a=some _ from x)
 |met f y=>exact uw (show h.get? a=some _ from x)
 |ext φ=>obtain⟨_,⟨_,e⟩,_⟩:=x;exact uw e
theorem Paired.mapP {α β:Type}{F G:α->β->Prop}:∀{l₁:oj α}{l₂:oj β},Paired F l₁ l₂->(∀a b,F a b->G a b)->Paired G l₁ l₂
 |_,_,.nil,_=> .nil
 |_,_,.cons r t,f=> .cons (f _ _ r) (Paired.mapP t f)
theorem QJ.stay (x:QJ P w H h a o)(k:∀b u,(b=a∨H b=some (.own a))->h.get? b=some u->h'.get? b=some u)
  (O:∀b,H b=some (.own a)->H' b=some (.own a)) (U:∀b xs,H b=some (.tup xs)->H' b=some (.tup xs)):QJ P w H' h' a o:=by
 induction o with
 |lst xs=>obtain⟨z,its,n,r,e⟩:=x;exact⟨z,its,n,r,k _ _ (.inl rfl) e⟩
 |tup xs=>obtain⟨z,its,r,ob,e,c⟩:=x;exact⟨z,its,r,ob,k _ _ (.inl rfl) e,c⟩
 |dK kvs=>obtain⟨z,y,vs,r,ob,es,ep,e,c⟩:=x;exact⟨z,y,vs,r,ob,es,ep,k _ _ (.inl rfl) e,c⟩
 |dT kvs=>
  obtain⟨z,y,xs,r,ob,es,ep,e,c⟩:=x;exact⟨z,y,xs,Paired.mapP r λp q z=>⟨z.1,U _ _ z.2.1,z.2.2⟩,ob,es,ep,k _ _ (.inl rfl) e,c⟩
 |set S n=>obtain⟨ob,es,ep,t,e,c⟩:=x;exact⟨ob,es,ep,t,k _ _ (.inl rfl) e,c⟩
 |ins C dx fs=>
  obtain⟨d,z,ne,e,mA,⟨od,es,ep,e2,c⟩,r⟩:=x;exact⟨O _ d,z,ne,k _ _ (.inl rfl) e,mA,⟨od,es,ep,k _ _ (.inr d) e2,c⟩,r⟩
 |own y=>obtain⟨ob,e⟩:=x;exact⟨ob,k _ _ (.inl rfl) e⟩
 |xd fs=>obtain⟨mA,⟨od,es,ep,e,c⟩,r⟩:=x;exact⟨mA,⟨od,es,ep,k _ _ (.inl rfl) e,c⟩,r⟩
 |rng lo hi=>obtain⟨t,u,v,e⟩:=x;exact⟨t,u,v,k _ _ (.inl rfl) e⟩
 |frz ob u ih=>obtain⟨e,q⟩:=x;exact⟨k _ _ (.inl rfl) e,ih q⟩
 |tbl ps=>
  have e:h.get? a=some {cls:= .none,data:= .fields ps}:=x;show h'.get? a=some {cls:= .none,data:= .fields ps};exact k a _ (.inl rfl) e
 |met f y=>
  have e:h.get? a=some (PySem.W.methodObj (.ref f) (.ref y)):=x;show h'.get? a=some (PySem.W.methodObj (.ref f) (.ref y));exact k a _ (.inl rfl) e
 |ext φ=>obtain⟨p,⟨o,e⟩,st⟩:=x;exact⟨st _ _ p λo q=>k _ _ (.inl rfl) q,⟨o,k _ _ (.inl rfl) e⟩,st⟩
theorem HOk.lt (x:HOk P w H h)(e:H a=some o):a<h.objs.size:=(x a o e).lt
theorem HOk.fresh (x:HOk P w H h)(e:h.objs.size<=a):H a=none:=by
 cases q:H a with
 |none=>rfl
 |some u=>exact absurd (Nat.lt_of_lt_of_le (x.lt q) e) (vw _)
theorem HOk.kept (x:HOk P w H h)(k:∀b u,h.get? b=some u->h'.get? b=some u):HOk P w H h':=λa o e=>
 (x a o e).stay (λb u _ q=>k b u q) (λ_ q=>q) λ_ _ q=>q
theorem HOk.laid (x:HOk P w H h)(k:∀b u,h.get? b=some u->h'.get? b=some u)(U:h.objs.size<=a)(new:QJ P w (upd H a o) h' a o):HOk P w (upd H a o) h':=λb u e=>by
 have hn:=x.fresh U;by_cases O:b=a
 ·subst O;rw [qf] at e;cases e;exact new
 ·rw [qh O] at e;exact(x b u e).stay (λc v _ q=>k c v q) (λc q=>by rw [qh (qj q hn)];exact q) λc xs q=>by rw [qh (qj q hn)];exact q
end
def Rd (H:Hp)(a:o3)(u:HO):Prop:=H a=some u∨∃o,H a=some (.frz o u)
theorem Rd.of {H:Hp}{a:o3}{u:HO}(h:H a=some u):Rd H a u:= .inl h
theorem Rd.ok {P:o9}{w:og}{H:Hp}{h:o8}{a:o3}{u:HO}(r:Rd H a u)(x:HOk P w H h):QJ P w H h a u:=by
 rcases r with r|⟨o,r⟩
 ·exact x a u r
 ·obtain⟨_,q⟩:=x a _ r;exact q
def Mut:om HO->Prop
 |some (.lst _)=>True
 |some (.dK _)=>True
 |some (.dT _)=>True
 |some (.set _ _)=>True
 |some (.ins _ _ _)=>True
 |some (.ext _)=>True
 |_=>False
section
variable {P:o9}{w:og}{H:Hp}{h h':o8}{x e:o3}{o':HO}
theorem HOk.write (ok:HOk P w H h)(mu:Mut (H x))(he:e=x∨H e=some (.own x))(k:∀b u,b≠e->h.get? b=some u->h'.get? b=some u)(ac:∃u,h'.get? e=some u)
  (new:QJ P w (upd H x o') h' x o'):HOk P w (upd H x o') h':=λb u q=>by
 have U:∀c y,H c=some (.own y)->c≠x:=λc y r z=>by subst z;rw [r] at mu;exact mu
 have aa:∀c xs,H c=some (.tup xs)->c≠x:=λc xs r z=>by subst z;rw [r] at mu;exact mu
 by_cases hb:b=x
 ·subst hb;rw [qf] at q;cases q;exact new
 ·rw [qh hb] at q;by_cases O:b=e
  ·have q':H b=some (.own x):=by
    rcases he with z|z
    ·exact absurd (O.trans z) hb
    ·rw [O];exact z
   rw [q] at q';cases q';obtain⟨v,hv⟩:=ac;exact⟨v,by rw [O];exact hv⟩
  ·refine(ok b u q).stay (λc v hc r=>k c v ?_ r) (λc r=>by rw [qh (U c b r)];exact r) λc xs r=>by rw [qh (aa c xs r)];exact r
   rcases hc with rfl|hc
   ·exact O
   ·rintro rfl;rcases he with z|z
    ·exact U c b hc z
    ·rw [hc] at z;cases z;exact hb rfl
end
structure Un (fs ex:oj o3)(H H':Hp)(h h':o8):Prop where
 keep:∀b o,h.get? b=some o->H b=none->b∉fs->b∉ex->h'.get? b=some o
 slot:∀b o,h.get? b=some o->H b=none->b∈fs->b∉ex->∃sl,h'.get? b=some {o with slots:=sl}
 free:∀b o,h.get? b=some o->H b=none->b∉ex->H' b=none
 there:∀b o,h.get? b=some o->b∉ex->∃o',h'.get? b=some o'
 tups:∀b xs,H b=some (.tup xs)->H' b=some (.tup xs)
 frzs:∀b o u,H b=some (.frz o u)->H' b=some (.frz o u)
 tbls:∀b ps,H b=some (.tbl ps)->∃more,H' b=some (.tbl (ps++more))
section
variable {fs fs' ex ex':oj o3}{H H1 H2:Hp}{h h1 h2 h':o8}{a x e:o3}{o:HO}
theorem Un.any (u:Un fs ex H H1 h h1){b:o3}{ob:Obj}(q:h.get? b=some ob)(n:H b=none)(O:b∉ex):∃sl,h1.get? b=some {ob with slots:=sl}:=by
 by_cases U:b∈fs
 ·exact u.slot b ob q n U O
 ·exact⟨ob.slots,u.keep b ob q n U O⟩
theorem Un.trans (a:Un fs ex H H1 h h1)(b:Un fs ex H1 H2 h1 h2):Un fs ex H H2 h h2 where
 keep:=λc ob q n hc O=>b.keep c ob (a.keep c ob q n hc O) (a.free c ob q n O) hc O
 slot:=λc ob q n hc O=>by
  obtain⟨sl,U⟩:=a.slot c ob q n hc O;obtain⟨aa,e2⟩:=b.slot c _ U (a.free c ob q n O) hc O;exact⟨aa,e2⟩
 free:=λc ob q n O=>by
  obtain⟨o',U⟩:=a.there c ob q O;exact b.free c o' U (a.free c ob q n O) O
 there:=λc ob q O=>by
  obtain⟨o',U⟩:=a.there c ob q O;exact b.there c o' U O
 tups:=λc xs q=>b.tups c xs (a.tups c xs q)
 frzs:=λc ob xs q=>b.frzs c ob xs (a.frzs c ob xs q)
 tbls:=λc ps q=>by
  obtain⟨m1,U⟩:=a.tbls c ps q;obtain⟨m2,e2⟩:=b.tbls c _ U;exact⟨m1++m2,by rw [e2,Array.append_assoc]⟩
theorem Un.kept (k:∀b u,h.get? b=some u->h'.get? b=some u):Un fs ex H H h h':=
 ⟨λb ob q _ _ _=>k b ob q,λb ob q _ _ _=>⟨ob.slots,k b ob q⟩,λ_ _ _ n _=>n,λb ob q _=>⟨ob,k b ob q⟩,λ_ _ q=>q,λ_ _ _ q=>q,λ_ ps q=>⟨#[],by rw [q];simp⟩⟩
theorem Un.refl:Un fs ex H H h h:=Un.kept λ_ _ q=>q
theorem Un.laid (k:∀b u,h.get? b=some u->h'.get? b=some u)(O:h.objs.size<=a)(hn:H a=none):Un fs ex H (upd H a o) h h' where
 keep:=λb u q _ _ _=>k b u q
 slot:=λb u q _ _ _=>⟨u.slots,k b u q⟩
 free:=λb u q n _=>by rw [qh (uI (Nat.lt_of_lt_of_le (uw q) O))];exact n
 there:=λb u q _=>⟨u,k b u q⟩
 tups:=λb xs q=>by rw [qh (qj q hn)];exact q
 frzs:=λb u xs q=>by rw [qh (qj q hn)];exact q
 tbls:=λb ps q=>⟨#[],by rw [qh (qj q hn),q];simp⟩
theorem Un.write (mu:Mut (H x))(he:e=x∨H e=some (.own x))(k:∀b u,b≠e->h.get? b=some u->h'.get? b=some u)(U:∃u,h'.get? e=some u):Un fs ex H (upd H x o) h h':=by
 have hx:∀b,H b=none->b≠x:=λb n z=>by subst z;rw [n] at mu;exact mu
 have hb:∀b,H b=none->b≠e:=λb n z=>by
  subst z;rcases he with r|r
  ·exact hx b n r
  ·rw [n] at r;cases r
 have hm:∀b u,H b=some u->¬Mut (some u)->b≠x:=λb u q nm z=>by subst z;rw [q] at mu;exact nm mu
 refine⟨λb u q n _ _=>k b u (hb b n) q,λb u q n _ _=>⟨u.slots,k b u (hb b n) q⟩,λb u q n _=>by rw [qh (hx b n)];exact n,λb u q _=> ?_,
  λb xs q=>by rw [qh (hm b _ q λz=>z)];exact q,λb u xs q=>by rw [qh (hm b _ q λz=>z)];exact q,λb ps q=>⟨#[],by rw [qh (hm b _ q λz=>z),q];simp⟩⟩
 by_cases O:b=e
 ·subst O;exact U
 ·exact⟨u,k b u O q⟩
end
def trk (h:o8)(H:Hp):oj o3:=(List.range h.objs.size).filter λa=>(H a).isSome
def hidT (h:o8)(H:Hp):o8:=PySem.W.hideAll h (trk h H)
theorem hidT_size (h:o8)(H:Hp):(hidT h H).objs.size=h.objs.size:=PySem.W.hideAll_size _ _
theorem hidT_get {h:o8}{H:Hp}{b:o3}{o:Obj}(e:h.get? b=some o)(n:H b=none):(hidT h H).get? b=some o:=
 PySem.W.hideAll_get _ e λhm=>by
  have q:(H b).isSome=true:=(List.mem_filter.mp hm).2;rw [n] at q;simp at q
theorem of_hidT {h:o8}{H:Hp}{b:o3}{o:Obj}(e:(hidT h H).get? b=some o):h.get? b=some o/\H b=none:=by
 have O:h.get? b=some o:=PySem.W.of_hideAll (trk h H) e;refine⟨O,?_⟩;cases q:H b with
 |none=>rfl
 |some x=>
  have hm:b∈trk h H:=List.mem_filter.mpr ⟨List.mem_range.mpr (uw O),by simp [q]⟩
  have z:(hidT h H).get? b=none:=PySem.W.hideAll_none (trk h H) hm;rw [z] at e;cases e
structure Mod (K:o0)(mg:Str->om o6)(base:o8):Prop where
 kin:K.In base
 glob:base.Ns mainGlobals mg
 blt:∃mb,base.Ns builtinsNs mb/\∀x:Str,x≠"__name__"->mb x=bootBuiltins x
 nolimit:base.NoLimit
structure Cx where
 prog:o9
 w:og
 K:o0
 mg:Str->om o6
 base:o8
 A:oh
 N:oj Str
 s₀:o7
 H₀:Hp
 env:Env
 outer:oj Env
 stack:oj Env
 ex:oj o3
 fn:Str->Bool
 calm:Bool
 pn:oj (o3×Obj)
 xe:o6->o7->Prop
def frs (l:oj Env):oj o3:=l.filterMap (·.frame)
abbrev Cx.fs (X:Cx):oj o3:=frs X.outer
def Vis (sc:Scope)(x:Str):Prop:=sc.names.lookup x=some .local∨sc.names.lookup x=some .cell∨sc.names.lookup x=some .free
def Loc (sc:Scope)(x:Str):Prop:=sc.names.lookup x=some .local∨sc.names.lookup x=some .cell
def Look (env:Env)(h:o8)(m:Str->om o6)(x:Str)(u:o6):Prop:=
 (env.kindOf x=some .local/\m x=some u)∨((env.kindOf x=some .cell∨env.kindOf x=some .free)/\∃c,env.cells.lookup x=some c/\h.IsCell c (some u))
structure Cx.Ok (X:Cx):Prop where
 mod:Mod X.K X.mg X.base
 kind:X.env.scope.kind= .function
 glob:X.env.globals=mainGlobals
 blt:X.env.builtins=builtinsNs
 above:X.s₀.heap.objs.size<=X.env.locals
 inj:∀x y c,X.env.cells.lookup x=some c->X.env.cells.lookup y=some c->x=y
 has:∀x,(X.env.kindOf x=some .cell∨X.env.kindOf x=some .free)->∃c,X.env.cells.lookup x=some c
 cab:∀x c,X.fn x=true->X.env.cells.lookup x=some c->X.s₀.heap.objs.size<=c
 hd:X.calm=true->X.A.handled=none
 frames:X.A.frames=some X.stack
 stk:X.stack=X.outer∨(X.stack=X.env::X.outer/\X.env.frame=some X.env.locals)
 exf:∀b∈X.ex,b≠X.env.locals/\∀x c,X.env.cells.lookup x=some c->c≠b
 bs:∀b o,X.base.get? b=some o->X.s₀.heap.get? b=some o/\X.H₀ b=none
 bsz:X.base.objs.size<=X.s₀.heap.objs.size
 noex:∀b o,X.base.get? b=some o->b∉X.ex
 exfs:∀b∈X.ex,b∉X.fs
 funs:X.s₀.heap.FunFrames X.base X.outer
 frf:∀b∈X.fs,X.H₀ b=none
structure Inv (X:Cx)(oq:oj (o3×Obj))(σ:oj (om V))(H:Hp)(s:o7):Prop where
 ok:X.Ok
 os:s.os=X.s₀.os
 bare:AllBare s.gens
 base:Un X.fs X.ex X.H₀ H X.s₀.heap s.heap
 loc:∃m,s.heap.Ns X.env.locals m/\∀(i:Nat) (x:Str) (v:V),X.N[i]? =some x->σ[i]? =some (some v)->Vis X.env.scope x->∃u,RelV v u/\Look X.env s.heap m x u
 cell:∀x c,X.env.cells.lookup x=some c->∃v,s.heap.IsCell c v
 free:H X.env.locals=none
 freeC:∀x c,X.env.cells.lookup x=some c->H c=none
 pin:∀p∈X.pn++oq,s.heap.get? p.1=some p.2/\H p.1=none/\p.1≠X.env.locals/\p.1∉X.fs/\∀v,p.2.data≠ .cell v
 hok:HOk X.prog X.w H s.heap
 len:σ.length=X.N.length
 tk:0<s.toks
section
variable {X:Cx}{oq:oj (o3×Obj)}{σ:oj (om V)}{H H':Hp}{s:o7}{h':o8}
theorem Cx.Ok.nofr (ok:X.Ok){b:o3}{o:Obj}(e:X.base.get? b=some o):b∉X.fs:=λO=>by
 have:=(ok.funs.mem O).1;rw [e] at this;cases this
theorem Inv.bs (I:Inv X oq σ H s):∀b o,X.base.get? b=some o->s.heap.get? b=some o/\H b=none:=λb o e=>
 ⟨I.base.keep b o (I.ok.bs b o e).1 (I.ok.bs b o e).2 (I.ok.nofr e) (I.ok.noex b o e),I.base.free b o (I.ok.bs b o e).1 (I.ok.bs b o e).2 (I.ok.noex b o e)⟩
theorem Inv.bk (I:Inv X oq σ H s):∀b o,X.base.get? b=some o->s.heap.get? b=some o:=λb o e=>(I.bs b o e).1
theorem Inv.mod (I:Inv X oq σ H s):Mod X.K X.mg X.base:=I.ok.mod
theorem Inv.kIn (I:Inv X oq σ H s):X.K.In s.heap:=I.ok.mod.kin.keeps I.bk
theorem Inv.lt (I:Inv X oq σ H s):X.env.locals<s.heap.objs.size:=let⟨_,hn,_⟩:=I.loc;hn.lt
theorem Inv.sz (I:Inv X oq σ H s):X.s₀.heap.objs.size<=s.heap.objs.size:=uQ I.ok.above (UG I.lt)
theorem Inv.nofs (I:Inv X oq σ H s){a:o3}(h:s.heap.objs.size<=a):a∉X.fs:=λO=>by
 obtain⟨_,o,U,_⟩:=I.ok.funs.mem O;exact absurd (Nat.lt_of_lt_of_le (uw U) (uQ I.sz h)) (vw _)
theorem Inv.cne (I:Inv X oq σ H s):∀x c,X.env.cells.lookup x=some c->c≠X.env.locals:=λx c e z=>by
 obtain⟨v,o,ho,hd⟩:=I.cell x c e;obtain⟨m,⟨o',es,ep,O,U,_⟩,_⟩:=I.loc;rw [z,O] at ho;cases ho;rw [U] at hd;cases hd
theorem Inv.funs (I:Inv X oq σ H s):s.heap.FunFrames X.base X.outer:=by
 have all:∀(l:oj Env),(∀b∈frs l,b∈X.fs)->X.s₀.heap.FunFrames X.base l->s.heap.FunFrames X.base l:=by
  intro l
  induction l with
  |nil=>intro _ _;trivial
  |cons env r ih=>
   intro hs hl;obtain⟨hk,⟨L,o,O,hn,ho,hd⟩,hr⟩:=hl;have U:L∈X.fs:=hs L (by unfold frs;rw [vD,O];exact ud)
   obtain⟨sl,e⟩:=I.base.slot L o ho (I.ok.frf L U) U λz=>I.ok.exfs L z U;exact⟨hk,⟨L,_,O,hn,e,hd⟩,ih (λb hb=>hs b (by unfold frs;rw [vD,O];exact ub _ hb)) hr⟩
 exact all X.outer (λ_ hb=>hb) I.ok.funs
theorem Inv.stack (I:Inv X oq σ H s):s.heap.FunFrames X.base X.stack:=by
 rcases I.ok.stk with e|⟨e,O⟩
 ·rw [e];exact I.funs
 ·rw [e];obtain⟨m,hn,_⟩:=I.loc;refine .cons (by rw [I.ok.kind];decide) O hn ?_ I.funs
  exact Heap.get?_none_of_le (uQ I.ok.bsz I.ok.above)
theorem Inv.stkSub (I:Inv X oq σ H s):∀b∈frs X.stack,b∈X.env.locals::X.fs:=λb O=>by
 rcases I.ok.stk with e|⟨e,U⟩
 ·rw [e] at O;exact ub _ O
 ·rw [e] at O;unfold frs at O;rw [vD,U] at O;exact O
theorem Inv.stkFree (I:Inv X oq σ H s):∀b∈frs X.stack,H b=none:=λb O=>by
 rcases List.mem_cons.mp (I.stkSub b O) with e|O
 ·rw [e];exact I.free
 ·obtain⟨_,o,U,_⟩:=I.ok.funs.mem O;exact I.base.free b o U (I.ok.frf b O) λz=>I.ok.exfs b z O
theorem Inv.step {g':Array GenState}{t':Nat}{d':Drawn}{ch:oj o3}(I:Inv X oq σ H s)
  (U:∀b∈ch,(b∈X.ex∨X.s₀.heap.objs.size<=b)/\b≠X.env.locals/\(∀x c,X.env.cells.lookup x=some c->c≠b)/\∀p∈X.pn++oq,p.1≠b)
  (keep:∀b o,b≠X.env.locals->b∉X.fs->b∉ch->s.heap.get? b=some o->H b=none->h'.get? b=some o)
  (slot:∀b o,b≠X.env.locals->b∈X.fs->b∉ch->s.heap.get? b=some o->H b=none->∃sl,h'.get? b=some {o with slots:=sl}) (free:∀b o,b∉ch->s.heap.get? b=some o->H b=none->H' b=none)
  (there:∀b o,b∉ch->s.heap.get? b=some o->∃o',h'.get? b=some o')
  (tups:∀b xs,H b=some (.tup xs)->H' b=some (.tup xs)) (frzs:∀b o u,H b=some (.frz o u)->H' b=some (.frz o u)) (tbls:∀b ps,H b=some (.tbl ps)->∃more,H' b=some (.tbl (ps++more)))
  (ns:∀m,s.heap.Ns X.env.locals m->h'.Ns X.env.locals m) (hok:HOk X.prog X.w H' h') (hg:AllBare g') (ht:0<t':=by ac_rfl):
  Inv X oq σ H' {s with heap:=h',gens:=g',drawn:=d',toks:=t'}:=by
 have ae:∀b o,X.s₀.heap.get? b=some o->b≠X.env.locals:=λb o e=>uI (Nat.lt_of_lt_of_le (uw e) I.ok.above);have ad:∀b o,X.s₀.heap.get? b=some o->b∉X.ex->b∉ch:=λb o e O hb=>by
  rcases(U b hb).1 with z|z
  ·exact O z
  ·exact absurd (Nat.lt_of_lt_of_le (uw e) z) (vw _)
 have aa:∀x c,X.env.cells.lookup x=some c->∀v,s.heap.IsCell c v->h'.IsCell c v:=λx c e v ⟨o,ho,hd⟩=>by
  have ac:c∉ch:=λz=>(U c z).2.2.1 x c e rfl;by_cases hc:c∈X.fs
  ·obtain⟨sl,q⟩:=slot c o (I.cne x c e) hc ac ho (I.freeC x c e);exact⟨_,q,hd⟩
  ·exact⟨o,keep c o (I.cne x c e) hc ac ho (I.freeC x c e),hd⟩
 refine⟨I.ok,I.os,hg,⟨λb o e n hb O=> ?_,λb o e n hb O=> ?_,λb o e n O=> ?_,λb o e O=> ?_,λb xs e=>tups b xs (I.base.tups b xs e),λb o xs e=>frzs b o xs (I.base.frzs b o xs e),λb ps e=> ?_⟩,?_,λx c e=> ?_,?_,λx c e=> ?_,λp hp=> ?_,hok,I.len,ht⟩
 ·exact keep b o (ae b o e) hb (ad b o e O) (I.base.keep b o e n hb O) (I.base.free b o e n O)
 ·obtain⟨sl,e1⟩:=I.base.slot b o e n hb O;obtain⟨af,e2⟩:=slot b _ (ae b o e) hb (ad b o e O) e1 (I.base.free b o e n O);exact⟨af,e2⟩
 ·obtain⟨o',e1⟩:=I.base.there b o e O;exact free b o' (ad b o e O) e1 (I.base.free b o e n O)
 ·obtain⟨o',e1⟩:=I.base.there b o e O;exact there b o' (ad b o e O) e1
 ·obtain⟨m1,e1⟩:=I.base.tbls b ps e;obtain⟨m2,e2⟩:=tbls b _ e1;exact⟨m1++m2,by rw [e2,Array.append_assoc]⟩
 ·obtain⟨m,hn,hl⟩:=I.loc;refine⟨m,ns m hn,λi x v e1 e2 e3=> ?_⟩;obtain⟨u,r,l⟩:=hl i x v e1 e2 e3;refine⟨u,r,?_⟩;rcases l with l|⟨k,c,e,z⟩
  ·exact .inl l
  ·exact .inr ⟨k,c,e,aa x c e _ z⟩
 ·obtain⟨v,z⟩:=I.cell x c e;exact⟨v,aa x c e v z⟩
 ·obtain⟨m,⟨o,_,_,ho,_⟩,_⟩:=I.loc;exact free _ o (λz=>(U _ z).2.1 rfl) ho I.free
 ·obtain⟨v,o,ho,hd⟩:=I.cell x c e;exact free c o (λz=>(U c z).2.2.1 x c e rfl) ho (I.freeC x c e)
 ·obtain⟨e,n,ne,nf,d⟩:=I.pin p hp;have ac:p.1∉ch:=λz=>(U p.1 z).2.2.2 p hp rfl;exact⟨keep p.1 p.2 ne nf ac e n,free p.1 p.2 ac e n,ne,nf,d⟩
theorem Inv.un {t':Nat}(I:Inv X oq σ H s)(u:Un X.fs [] H H' s.heap h')(hok:HOk X.prog X.w H' h')(ht:0<t':=by ac_rfl):Inv X oq σ H' {s with heap:=h',toks:=t'}:=by
 obtain⟨m,⟨o,es,ep,ho,r⟩,_⟩:=id I.loc;obtain⟨sl,hL⟩:=u.any ho I.free (by simp)
 exact I.step (g':=s.gens) (d':=s.drawn) (ch:= []) (λ_ z=>nomatch z) (λb o _ U _ e n=>u.keep b o e n U (by simp)) (λb o _ U _ e n=>u.slot b o e n U (by simp)) (λb o _ e n=>u.free b o e n (by simp)) (λb o _ e=>u.there b o e (by simp)) u.tups u.frzs u.tbls (λm' hm=>by
  obtain⟨o',aa,ac,O,r'⟩:=hm;rw [ho] at O;cases O;exact⟨_,aa,ac,hL,r'⟩) hok I.bare
theorem Inv.call {g':Array GenState}{t':Nat}{d':Drawn}{ch:oj o3}(I:Inv X oq σ H s)(u:Un (frs X.stack) ch H H' s.heap h')(hok:HOk X.prog X.w H' h')(hg:AllBare g')
  (U:∀b∈ch,(b∈X.ex∨X.s₀.heap.objs.size<=b)/\b≠X.env.locals/\(∀x c,X.env.cells.lookup x=some c->c≠b)/\∀p∈X.pn++oq,p.1≠b) (ht:0<t':=by ac_rfl):
  Inv X oq σ H' {s with heap:=h',gens:=g',drawn:=d',toks:=t'}:=by
 obtain⟨m,⟨o,es,ep,ho,r⟩,_⟩:=id I.loc;obtain⟨sl,hL⟩:=u.any ho I.free λz=>(U _ z).2.1 rfl;exact I.step (ch:=ch) U (λb o hL hb O e n=>u.keep b o e n (λz=>(List.mem_cons.mp (I.stkSub b z)).elim hL hb) O) (λb o _ _ O e n=>u.any e n O) (λb o O e n=>u.free b o e n O) (λb o O e=>u.there b o e O) u.tups u.frzs u.tbls (λm' hm=>by
  obtain⟨o',ac,ad,aa,r'⟩:=hm;rw [ho] at aa;cases aa;exact⟨_,ac,ad,hL,r'⟩) hok hg
theorem Inv.turned {t':Nat}{it:o3}(I:Inv X oq σ H s)(k:∀b o,b≠it->s.heap.get? b=some o->h'.get? b=some o)(hn:H it=none)(hL:it≠X.env.locals)
  (h1:it∈X.ex∨X.s₀.heap.objs.size<=it) (h2:∀x c,X.env.cells.lookup x=some c->c≠it) (h3:∀p∈X.pn++oq,p.1≠it) (ht:0<t':=by ac_rfl):Inv X oq σ H {s with heap:=h',toks:=t'}:=by
 have U:∀b u,H b=some u->b≠it:=λb u e z=>by rw [z,hn] at e;cases e
 refine I.step (g':=s.gens) (d':=s.drawn) (ch:= [it]) (λb hb=> ?_) (λb o _ _ O e _=>k b o (λz=>O (by simp [z])) e) (λb o _ _ O e _=>⟨o.slots,k b o (λz=>O (by simp [z])) e⟩) (λ_ _ _ _ n=>n)
  (λb o O e=>⟨o,k b o (λz=>O (by simp [z])) e⟩) (λ_ _ e=>e) (λ_ _ _ e=>e) (λb ps e=>⟨#[],by rw [e];simp⟩) (λm hm=> ?_) (λb u e=> ?_) I.bare
 ·have e:b=it:=by simpa using hb
  subst e;exact⟨h1,hL,h2,h3⟩
 ·obtain⟨o,es,ep,ho,r⟩:=hm;exact⟨o,es,ep,k _ o (U0 hL) ho,r⟩
 ·refine(I.hok b u e).stay (λc v O q=>k c v ?_ q) (λ_ q=>q) λ_ _ q=>q;rcases O with z|z
  ·rw [z];exact U b u e
  ·exact U c _ z
theorem Inv.tok (I:Inv X oq σ H s)(t:Nat)(O:0<t:=by ac_rfl):Inv X oq σ H {s with toks:=t}:=I.un (h':=s.heap) (t':=t) Un.refl I.hok
theorem Inv.kept {t':Nat}(I:Inv X oq σ H s)(k:∀b u,s.heap.get? b=some u->h'.get? b=some u)(O:0<t':=by ac_rfl):Inv X oq σ H {s with heap:=h',toks:=t'}:=I.un (Un.kept k) (I.hok.kept k)
theorem Inv.laid {a:o3}{o:HO}{t':Nat}(I:Inv X oq σ H s)(k:∀b u,s.heap.get? b=some u->h'.get? b=some u)(O:s.heap.objs.size<=a)(new:QJ X.prog X.w (upd H a o) h' a o)(U:0<t':=by ac_rfl):
  Inv X oq σ (upd H a o) {s with heap:=h',toks:=t'}:=I.un (Un.laid k O (I.hok.fresh O)) (I.hok.laid k O new)
theorem Inv.write {x e:o3}{o:HO}{t':Nat}(I:Inv X oq σ H s)(mu:Mut (H x))(U:e=x∨H e=some (.own x))(k:∀b u,b≠e->s.heap.get? b=some u->h'.get? b=some u)(O:∃u,h'.get? e=some u)
  (new:QJ X.prog X.w (upd H x o) h' x o) (ht:0<t':=by ac_rfl):Inv X oq σ (upd H x o) {s with heap:=h',toks:=t'}:=I.un (Un.write mu U k O) (I.hok.write mu U k O new)
theorem Inv.pins_of {O:oj (o3×Obj)}(I:Inv X oq σ H s)(h:∀p∈O,s.heap.get? p.1=some p.2/\H p.1=none/\p.1≠X.env.locals/\p.1∉X.fs/\∀v,p.2.data≠ .cell v):Inv X O σ H s:=
 ⟨I.ok,I.os,I.bare,I.base,I.loc,I.cell,I.free,I.freeC,λp U=>(List.mem_append.mp U).elim (λz=>I.pin p (vC _ z)) (h p),I.hok,I.len,I.tk⟩
theorem W0 {N:oj Str}(O:N.Nodup){i j:Nat}{x:Str}(a:N[i]? =some x)(b:N[j]? =some x):i=j:=by
 obtain⟨h1,U⟩:=List.getElem?_eq_some_iff.mp a;obtain⟨h2,e2⟩:=List.getElem?_eq_some_iff.mp b;exact(List.getElem_inj O).mp (U.trans e2.symm)
theorem store_ok2 {M:Model}{A:oh}{E:o6->o7->Prop}{i:Nat}{x:Str}{v:V}{u:o6}{Q:Unit->o7->Prop}(I:Inv X oq σ H s)(hN:X.N.Nodup)(hi:X.N[i]? =some x)(hx:Loc X.env.scope x)(r:RelV v u)
  (h:∀s',Inv X oq (σ.set i (some v)) H s'->(∃a,Heap.SameBut a s.heap s'.heap/\(a=X.env.locals∨X.env.cells.lookup x=some a))->Q Unit.unit s') (hf:X.fn x=true∨X.env.scope.names.lookup x=some .local:=by first|exact .inl rfl|exact .inr rfl|assumption):wpAny M A (storeName X.env x u) Q E s:=by
 obtain⟨m,hn,hl⟩:=id I.loc;have ad:(X.env.scope.kind== .class||(X.env.scope.kind== .module&&X.env.locals !=X.env.globals))=false:=by rw [I.ok.kind];rfl
 have ae:i<σ.length:=by rw [I.len];exact(List.getElem?_eq_some_iff.mp hi).1
 have cne:=I.cne;have U:∀{a:o3}{h':o8},(∃o,s.heap.get? a=some o/\H a=none)->Heap.SameBut a s.heap h'->HOk X.prog X.w H h':=λ{a h'} ha O b ob e=>by
  obtain⟨_,_,aa⟩:=ha;refine(I.hok b ob e).stay (λc w' hc q=>(O.2 c ?_).trans q) (λ_ q=>q) λ_ _ q=>q;rintro rfl;rcases hc with rfl|hc
  ·rw [aa] at e;cases e
  ·rw [aa] at hc;cases hc
 rcases hx with hk|hk
 ·refine wpAny_storeName_local hk hn (λh' al O=> ?_) ad;obtain⟨oL,_,_,am,_⟩:=id hn;refine h _ ⟨I.ok,I.os,I.bare,⟨λb o e n hb hx=> ?_,λb o e n hb hx=> ?_,I.base.free,λb o e hx=> ?_,I.base.tups,I.base.frzs,I.base.tbls⟩,⟨_,al,λj y v' e1 e2 e3=> ?_⟩,λy c e=> ?_,I.free,I.freeC,λp hp=> ?_,U ⟨oL,am,I.free⟩ O,by simpa using I.len,by first|exact I.tk|exact Nat.succ_pos _⟩ ⟨_,O,.inl rfl⟩
  ·exact(O.2 b (uI (Nat.lt_of_lt_of_le (uw e) I.ok.above))).trans (I.base.keep b o e n hb hx)
  ·obtain⟨sl,e1⟩:=I.base.slot b o e n hb hx;exact⟨sl,(O.2 b (uI (Nat.lt_of_lt_of_le (uw e) I.ok.above))).trans e1⟩
  ·obtain⟨o',e1⟩:=I.base.there b o e hx;exact⟨o',(O.2 b (uI (Nat.lt_of_lt_of_le (uw e) I.ok.above))).trans e1⟩
  ·by_cases hj:j=i
   ·subst hj;rw [hi] at e1;cases e1;rw [U1 ae] at e2;cases e2;exact⟨u,r,.inl ⟨hk,by simp⟩⟩
   ·rw [Ui (U0 hj)] at e2;obtain⟨u',r',q⟩:=hl j y v' e1 e2 e3;refine⟨u',r',?_⟩;rcases q with⟨k,e⟩|⟨k,c,e,z⟩
    ·refine .inl ⟨k,?_⟩;have:y≠x:=λe=>hj (W0 hN e1 (e▸hi));simp [this,e]
    ·exact .inr ⟨k,c,e,z.sameBut O (cne y c e)⟩
  ·obtain⟨w',z⟩:=I.cell y c e;exact⟨w',z.sameBut O (cne y c e)⟩
  ·obtain⟨e,n,ne,nf,d⟩:=I.pin p hp;exact⟨(O.2 p.1 ne).trans e,n,ne,nf,d⟩
 ·have ac:X.fn x=true:=by
   rcases hf with z|z
   ·exact z
   ·rw [z] at hk;cases hk
  obtain⟨c,hc⟩:=I.ok.has x (.inl hk);obtain⟨w',z⟩:=I.cell x c hc;refine wpAny_storeName_cell I.ok.kind hk hc z (λh' af O=> ?_);obtain⟨oc,ag,ah⟩:=id z;refine h {s with heap:=h'} ⟨I.ok,I.os,I.bare,⟨λb o e n hb hx=> ?_,λb o e n hb hx=> ?_,I.base.free,λb o e hx=> ?_,I.base.tups,I.base.frzs,I.base.tbls⟩,⟨m,hn.sameBut O (U0 (cne x c hc)),λj y v' e1 e2 e3=> ?_⟩,λy c' e=> ?_,I.free,I.freeC,λp hp=> ?_,U ⟨oc,ag,I.freeC x c hc⟩ O,by simpa using I.len,by first|exact I.tk|exact Nat.succ_pos _⟩ ⟨c,O,.inr hc⟩
  ·exact(O.2 b (uI (Nat.lt_of_lt_of_le (uw e) (I.ok.cab x c ac hc)))).trans (I.base.keep b o e n hb hx)
  ·obtain⟨sl,e1⟩:=I.base.slot b o e n hb hx;exact⟨sl,(O.2 b (uI (Nat.lt_of_lt_of_le (uw e) (I.ok.cab x c ac hc)))).trans e1⟩
  ·obtain⟨o',e1⟩:=I.base.there b o e hx;exact⟨o',(O.2 b (uI (Nat.lt_of_lt_of_le (uw e) (I.ok.cab x c ac hc)))).trans e1⟩
  ·by_cases hj:j=i
   ·subst hj;rw [hi] at e1;cases e1;rw [U1 ae] at e2;cases e2;exact⟨u,r,.inr ⟨.inl hk,c,hc,af⟩⟩
   ·rw [Ui (U0 hj)] at e2;obtain⟨u',r',q⟩:=hl j y v' e1 e2 e3;refine⟨u',r',?_⟩;rcases q with q|⟨k,c',e,z'⟩
    ·exact .inl q
    ·refine .inr ⟨k,c',e,z'.sameBut O ?_⟩;rintro rfl;exact hj (W0 hN e1 (I.ok.inj _ _ _ e hc▸hi))
  ·by_cases ak:c'=c
   ·subst ak;exact⟨_,af⟩
   ·obtain⟨w2,z2⟩:=I.cell y c' e;exact⟨w2,z2.sameBut O ak⟩
  ·obtain⟨e,n,ne,nf,d⟩:=I.pin p hp;refine⟨(O.2 p.1 ?_).trans e,n,ne,nf,d⟩;intro q;rw [q,ag] at e;have q':oc=p.2:=uE e;exact d w' (by rw [<-q'];exact ah)
theorem xx {M:Model}{A:oh}{E:o6->o7->Prop}{i:Nat}{x:Str}{v:V}{u:o6}{Q:Unit->o7->Prop}(I:Inv X oq σ H s)(O:X.N.Nodup)(hi:X.N[i]? =some x)(U:Loc X.env.scope x)(r:RelV v u)
  (h:∀s',Inv X oq (σ.set i (some v)) H s'->Q Unit.unit s') (hf:X.fn x=true∨X.env.scope.names.lookup x=some .local:=by first|exact .inl rfl|exact .inr rfl|assumption):wpAny M A (storeName X.env x u) Q E s:=
 store_ok2 I O hi U r (λs' I' _=>h s' I') hf
theorem Inv.call' {s':o7}{ch:oj o3}(I:Inv X oq σ H s)(U:s'.os=s.os)(u:Un (frs X.stack) ch H H' s.heap s'.heap)(hok:HOk X.prog X.w H' s'.heap)(hg:AllBare s'.gens)
  (O:∀b∈ch,(b∈X.ex∨X.s₀.heap.objs.size<=b)/\b≠X.env.locals/\(∀x c,X.env.cells.lookup x=some c->c≠b)/\∀p∈X.pn++oq,p.1≠b) (ht:0<s'.toks:=by ac_rfl):Inv X oq σ H' s':=by
 obtain⟨h',g',d',t',o'⟩:=s';have e:o'=s.os:=U;subst e;exact I.call (g':=g') (t':=t') (d':=d') u hok hg O
end
abbrev XK:=o6->om o3->Hp->Prop
abbrev St:=oj (om V)
abbrev VK:=V->Hp->Prop
abbrev TE:=St->Hp->VK->Prop
abbrev TT:=St->Hp->(Bool->Hp->Prop)->Prop
abbrev TA:=St->Hp->(oj V->Hp->Prop)->Prop
structure Ends where
 nx:St->Hp->Prop
 rt:VK
 bk:St->Hp->Prop:=λ_ _=>False
 ct:St->Hp->Prop:=λ_ _=>False
abbrev TS:=Ends->St->Hp->Prop
def EP (X:Cx)(oq:oj (o3×Obj))(σ:St)(Q:VK)(u:o6)(s':o7):Prop:=∃v H',Inv X oq σ H' s'/\RelV v u/\Q v H'
def TP (X:Cx)(oq:oj (o3×Obj))(σ:St)(Q:Bool->Hp->Prop)(b:Bool)(s':o7):Prop:=∃H',Inv X oq σ H' s'/\Q b H'
def AP (X:Cx)(oq:oj (o3×Obj))(σ:St)(Q:oj V->Hp->Prop)(us:oj o6)(s':o7):Prop:=∃vs H',Inv X oq σ H' s'/\Vals vs us/\Q vs H'
def SP (X:Cx)(oq:oj (o3×Obj))(D:Ends)(f:Flow)(s':o7):Prop:=
 match f with
 | .next=>∃σ' H',Inv X oq σ' H' s'/\D.nx σ' H'
 | .brk=>∃σ' H',Inv X oq σ' H' s'/\D.bk σ' H'
 | .cont=>∃σ' H',Inv X oq σ' H' s'/\D.ct σ' H'
 | .ret u=>∃v σ' H',Inv X oq σ' H' s'/\RelV v u/\D.rt v H'
def PE (X:Cx)(e:Expr)(t:TE):Prop:=
 ∀(oq:oj (o3×Obj)) (s:o7) (σ:St) (H:Hp) (Q:VK),Inv X oq σ H s->t σ H Q->wpAny (model X.prog X.w) X.A (eval e X.env) (EP X oq σ Q) X.xe s
def PT (X:Cx)(e:Expr)(t:TT):Prop:=
 ∀(oq:oj (o3×Obj)) (s:o7) (σ:St) (H:Hp) (Q:Bool->Hp->Prop),Inv X oq σ H s->t σ H Q->wpAny (model X.prog X.w) X.A (isTrue e X.env (eval e X.env)) (TP X oq σ Q) X.xe s
def PW (X:Cx)(e:Expr)(t:TT):Prop:=
 ∀(whole:Sem o6) (oq:oj (o3×Obj)) (s:o7) (σ:St) (H:Hp) (Q:Bool->Hp->Prop),Inv X oq σ H s->t σ H Q->wpAny (model X.prog X.w) X.A (isTrue e X.env whole) (TP X oq σ Q) X.xe s
theorem PW.pt {X:Cx}{e:Expr}{t:TT}(h:PW X e t):PT X e t:=h _
def PA (X:Cx)(es:oj Expr)(t:TA):Prop:=
 ∀(pos:Pos) (oq:oj (o3×Obj)) (s:o7) (σ:St) (H:Hp) (Q:oj V->Hp->Prop),Inv X oq σ H s->t σ H Q->wpAny (model X.prog X.w) X.A (spliced (backTo pos (starEach es X.env))) (AP X oq σ Q) X.xe s
def PS (X:Cx)(st:Stmt)(t:TS):Prop:=
 ∀(oq:oj (o3×Obj)) (s:o7) (σ:St) (H:Hp) (D:Ends),Inv X oq σ H s->t D σ H->wpAny (model X.prog X.w) X.A (exec st X.env) (SP X oq D) X.xe s
def PSs (X:Cx)(st:oj Stmt)(t:TS):Prop:=
 ∀(oq:oj (o3×Obj)) (s:o7) (σ:St) (H:Hp) (D:Ends),Inv X oq σ H s->t D σ H->wpAny (model X.prog X.w) X.A (execs st X.env) (SP X oq D) X.xe s
theorem thn {α:Type}{t:Sem α}{Q O:α->o7->Prop}{M:Model}{A:oh}{E:o6->o7->Prop}{s:o7}(h:wpAny M A t Q E s)(U:∀a s,Q a s->O a s):wpAny M A t O E s:=vg h U λ_ _ x=>x
section
variable {X:Cx}
def tVar (i:Nat):TE:=λσ H Q=>∃v,σ[i]? =some (some v)/\Q v H
def tC (v:V):TE:=λ_ H Q=>Q v H
theorem pe_var {i:Nat}{x:Str}{pos:Pos}(hN:X.N[i]? =some x)(hv:Vis X.env.scope x)(hd:(x==("__debug__":Str))=false:=by decide)(aa:(x==("__classdict__":Str))=false:=by decide):PE X (.Name x pos) (tVar i):=by
 intro oq s σ H Q I h;obtain⟨v,e,h⟩:=h;obtain⟨m,hn,hl⟩:=I.loc;obtain⟨u,r,l⟩:=hl i x v hN e hv;have fin:EP X oq σ Q u s:=⟨v,H,I,r,h⟩;rcases l with⟨U,hm⟩|⟨U,c,hc,O⟩
 ·exact wpAny_Name (wpAny_loadName_local I.ok.kind U hn hm fin) hd
 ·rcases U with U|U
  ·exact wpAny_Name (wpAny_loadName_cell I.ok.kind U hc O fin) hd
  ·exact wpAny_Name (wpAny_loadName_free I.ok.kind U hc O fin aa) hd
theorem qk {i j pos}:PE X (.Constant (.int i) j pos) (tC (.int i)):=λ_ _ _ H _ I h=>wpAny_Constant_int ⟨.int i,H,I.tok _,⟨0⟩,h⟩
theorem YR {b j pos}:PE X (.Constant (.bool b) j pos) (tC (.bl b)):=λ_ _ _ H _ I h=>Constant_bool ⟨.bl b,H,I,1,h⟩
theorem qQ {j pos}:PE X (.Constant .none j pos) (tC .non):=λ_ _ _ H _ I h=>Constant_none ⟨.non,H,I,1,h⟩
theorem qm {x j pos}:PE X (.Constant (.str x) j pos) (tC (.str x)):=λ_ _ _ H _ I h=>Calls.Constant_str ⟨.str x,H,I.tok _,⟨0⟩,h⟩
def Gl (X:Cx)(x:Str):Prop:=X.env.kindOf x=some .globalImplicit
theorem XC {E:o6->o7->Prop}{oq:oj (o3×Obj)}{s:o7}{σ:St}{H:Hp}{x:Str}{u:o6}{pos:Pos}{Q:o6->o7->Prop}(I:Inv X oq σ H s)(O:Gl X x)(hm:X.mg x=some u)(h:Q u s)
  (hd:(x==("__debug__":Str))=false:=by decide):wpAny (model X.prog X.w) X.A (eval (.Name x pos) X.env) Q E s:=
 Calls.Name_function_global I.ok.kind O (Calls.loadGlobal_global (by rw [I.ok.glob];exact I.mod.glob.keeps I.bk) hm h) hd
theorem wx {E:o6->o7->Prop}{oq:oj (o3×Obj)}{s:o7}{σ:St}{H:Hp}{x:Str}{u:o6}{pos:Pos}{Q:o6->o7->Prop}(I:Inv X oq σ H s)(O:Gl X x)(hm:X.mg x=none)(U:bootBuiltins x=some u)(h:Q u s)
  (hn:x≠"__name__":=by decide) (hd:(x==("__debug__":Str))=false:=by decide):wpAny (model X.prog X.w) X.A (eval (.Name x pos) X.env) Q E s:=by
 obtain⟨mb,h1,h2⟩:=I.mod.blt;exact Calls.Name_function_global I.ok.kind O (Calls.loadGlobal_builtin (by rw [I.ok.glob];exact I.mod.glob.keeps I.bk) hm (by rw [I.ok.blt];exact h1.keeps I.bk) ((h2 x hn).trans U) h) hd
theorem pe_glob {x:Str}{v:V}{u:o6}{pos:Pos}(O:Gl X x)(hm:X.mg x=some u)(r:RelV v u)(hd:(x==("__debug__":Str))=false:=by decide):PE X (.Name x pos) (tC v):=
 λ_ _ _ H _ I h=>XC I O hm ⟨v,H,I,r,h⟩ hd
theorem QN {x:Str}{v:V}{u:o6}{pos:Pos}(O:Gl X x)(hm:X.mg x=none)(U:bootBuiltins x=some u)(r:RelV v u)(hn:x≠"__name__")(hd:(x==("__debug__":Str))=false):PE X (.Name x pos) (tC v):=
 λ_ _ _ H _ I h=>wx I O hm U ⟨v,H,I,r,h⟩ hn hd
variable {a b:Expr}{ta tb:TE}{pos:Pos}
def PC (X:Cx)(op:CmpOp)(a b:Expr)(t:TE):Prop:=
 ∀(oq:oj (o3×Obj)) (s:o7) (σ:St) (H:Hp) (Q:VK),Inv X oq σ H s->t σ H Q->
  wpAny (model X.prog X.w) X.A (eval a X.env) (λv s₁=>wpAny (model X.prog X.w) X.A (eval b X.env) (λu s₂=>wpAny (model X.prog X.w) X.A (compareOp op v u) (EP X oq σ Q) X.xe s₂) X.xe s₁) X.xe s
def tB (t:TE):TT:=λσ H Q=>t σ H λx H1=>∃c,x= .bl c/\Q c H1
theorem pt_cmp {O:CmpOp}{t:TE}(h:PC X O a b t)(h1:behindInMarks O b=false):PT X (.Compare a [O] [b] pos) (tB t):=by
 intro oq s σ H Q I U;refine wpAny_isTrue_Compare1 (thn (h oq s σ H _ I U) λv s1 h1=>thn h1 λu s2 h2=>thn h2 λc s3 ⟨x,H1,I1,r1,q1⟩=> ?_) h1;obtain⟨d,rfl,q⟩:=q1;cases r1;exact vc ⟨H1,I1,q⟩
theorem Qe {e:Expr}{t:TE}(h:PE X e t)(U:∀O,isTrue e X.env O=(do let v<-O;standAt e.pos;holding [v] (truthy v))):PT X e (tB t):=by
 intro oq s σ H Q I hw;refine isTrue_plain (thn (h oq s σ H _ I hw) λv s1 ⟨x,H1,I1,r1,q1⟩=> ?_) (U _);obtain⟨d,rfl,q⟩:=q1;cases r1;exact vc ⟨H1,I1,q⟩
variable {tA tB':TT}{rest:oj Expr}
def tAnd (t u:TT):TT:=λσ H Q=>t σ H λc H1=>if c=true then u σ H1 Q else Q false H1
def tOr (t u:TT):TT:=λσ H Q=>t σ H λc H1=>if c=true then Q true H1 else u σ H1 Q
def tNot (t:TT):TT:=λσ H Q=>t σ H λc H1=>Q (!c) H1
theorem pw_and1 (ha:PT X a tA):PW X (.BoolOp .And [a] pos) tA:=by
 intro O oq s σ H Q I h;refine isTrue_and (thn (ha oq s σ H Q I h) λc s1 e=> ?_);cases c with
 |true=>exact isTrue_and_nil e
 |false=>exact e
theorem xh (ha:PT X a tA):PW X (.BoolOp .Or [a] pos) tA:=by
 intro O oq s σ H Q I h;refine isTrue_or (thn (ha oq s σ H Q I h) λc s1 e=> ?_);cases c with
 |false=>exact isTrue_or_nil e
 |true=>exact e
theorem pw_and (ha:PT X a tA)(U:PW X (.BoolOp .And (b::rest) pos) tB'):PW X (.BoolOp .And (a::b::rest) pos) (tAnd tA tB'):=by
 intro wh oq s σ H Q I h;refine isTrue_and (thn (ha oq s σ H _ I h) λc s1 ⟨H1,O,q1⟩=> ?_);cases c with
 |true=>exact U wh oq s1 σ H1 Q O q1
 |false=>exact⟨H1,O,q1⟩
theorem Zm (ha:PT X a tA)(U:PW X (.BoolOp .Or (b::rest) pos) tB'):PW X (.BoolOp .Or (a::b::rest) pos) (tOr tA tB'):=by
 intro wh oq s σ H Q I h;refine isTrue_or (thn (ha oq s σ H _ I h) λc s1 ⟨H1,O,q1⟩=> ?_);cases c with
 |true=>exact⟨H1,O,q1⟩
 |false=>exact U wh oq s1 σ H1 Q O q1
theorem Qp (ha:PT X a tA):PT X (.UnaryOp .Not a pos) (tNot tA):=by
 intro oq s σ H Q I h;exact isTrue_not (ha oq s σ H (λc H1=>Q (!c) H1) I h)
def tAndV (ta tb:TE):TE:=λσ H Q=>ta σ H λx H1=>∃c,x= .bl c/\if c=true then tb σ H1 Q else Q (.bl false) H1
def tOrV (ta tb:TE):TE:=λσ H Q=>ta σ H λx H1=>∃c,x= .bl c/\if c=true then Q (.bl true) H1 else tb σ H1 Q
def tNotV (ta:TE):TE:=λσ H Q=>ta σ H λx H1=>∃c,x= .bl c/\Q (.bl (!c)) H1
theorem XJ {op}{t:TE}(h:PE X a t):PE X (.BoolOp op [a] pos) t:=λoq s σ H Q I O=>BoolOp_one (h oq s σ H Q I O)
theorem wp (ha:PE X a ta)(U:PE X (.BoolOp .And (b::rest) pos) tb):PE X (.BoolOp .And (a::b::rest) pos) (tAndV ta tb):=by
 intro oq s σ H Q I h;refine BoolOp_and (thn (ha oq s σ H _ I h) λv s1 ⟨x,H1,O,r1,q1⟩=> ?_);obtain⟨c,rfl,q1⟩:=q1;cases r1;refine vc ?_;cases c with
 |true=>exact U oq s1 σ H1 Q O q1
 |false=>exact⟨.bl false,H1,O,1,q1⟩
theorem pe_or (ha:PE X a ta)(U:PE X (.BoolOp .Or (b::rest) pos) tb):PE X (.BoolOp .Or (a::b::rest) pos) (tOrV ta tb):=by
 intro oq s σ H Q I h;refine BoolOp_or (thn (ha oq s σ H _ I h) λv s1 ⟨x,H1,O,r1,q1⟩=> ?_);obtain⟨c,rfl,q1⟩:=q1;cases r1;refine vc ?_;cases c with
 |false=>exact U oq s1 σ H1 Q O q1
 |true=>exact⟨.bl true,H1,O,1,q1⟩
theorem pe_not (ha:PE X a ta):PE X (.UnaryOp .Not a pos) (tNotV ta):=by
 intro oq s σ H Q I h;refine UnaryOp_ (thn (ha oq s σ H _ I h) λv s1 ⟨x,H1,O,U,q1⟩=> ?_);obtain⟨c,rfl,q1⟩:=q1;cases U;exact not_of (vc ⟨.bl (!c),H1,O,1,q1⟩)
def tIf (t:TT)(ta tb:TE):TE:=λσ H Q=>t σ H λc H1=>if c=true then ta σ H1 Q else tb σ H1 Q
theorem Q2 {c:Expr}(U:PT X c tA)(ha:PE X a ta)(hb:PE X b tb):PE X (.IfExp c a b pos) (tIf tA ta tb):=by
 intro oq s σ H Q I h;refine wpAny_IfExp (thn (U oq s σ H _ I h) λd s1 ⟨H1,O,q1⟩=> ?_);cases d with
 |true=>exact ha oq s1 σ H1 Q O q1
 |false=>exact hb oq s1 σ H1 Q O q1
end
def SqL (K:o0)(H:Hp)(a:o3)(xs:oj V):Prop:=
 Rd H a (.lst xs)∨
  ∃(o:Obj) (its:Array o6) (n:Nat),K.lookup a=some o/\o.cls= .type "list"/\o.dict=none/\o.data= .seq its n/\its.size<=sizeLine/\Vals xs its.toList
def SqT (K:o0)(H:Hp)(a:o3)(xs:oj V):Prop:=
 Rd H a (.tup xs)∨
  ∃(o:Obj) (its:Array o6) (n:Nat),K.lookup a=some o/\o.cls= .type "tuple"/\o.data= .seq its n/\its.size<=sizeLine/\Vals xs its.toList
noncomputable def absV:o6->om V
 | .none=>some .non
 | .bool b=>some (.bl b)
 | .int i _=>some (.int i)
 | .str x _=>some (.str x)
 | .bytes b _=>some (.byt b)
 | .float b _=>some (.flt b)
 | .ref a=>some (.ref a)
 | .type n=>some (.ty n)
 |_=>none
theorem RelV.abs {x:V}{u:o6}(r:RelV x u):absV u=some x:=by
 cases x with
 |non=>cases r;rfl
 |bl _=>cases r;rfl
 |int _=>obtain⟨t,rfl⟩:=r;rfl
 |str _=>obtain⟨t,rfl⟩:=r;rfl
 |byt _=>obtain⟨t,rfl⟩:=r;rfl
 |flt _=>obtain⟨t,rfl⟩:=r;rfl
 |ref _=>cases r;rfl
 |ty _=>cases r;rfl
theorem RelV.inj {x y:V}{u:o6}(r:RelV x u)(q:RelV y u):x=y:=uE (r.abs.symm.trans q.abs)
theorem Vals.inj:∀{xs ys:oj V}{us:oj o6},Vals xs us->Vals ys us->xs=ys
 |_,_,_,.nil,.nil=>rfl
 |_,_,_,.cons r t,.cons r' t'=>by rw [r.inj r',Vals.inj t t']
section
variable {X:Cx}{oq:oj (o3×Obj)}{σ:St}{H:Hp}{s:o7}{a:o3}{xs ys:oj V}
theorem SqL.of {K:o0}(h:H a=some (.lst xs)):SqL K H a xs:= .inl (.inl h)
theorem SqT.of {K:o0}(h:H a=some (.tup xs)):SqT K H a xs:= .inl (.inl h)
theorem Inv.list (I:Inv X oq σ H s)(h:SqL X.K H a xs):∃its:oj o6,Vals xs its/\PlainL s.heap a its.toArray/\xs.length<=sizeLine:=by
 rcases h with h|⟨o,its,n,O,U,hd,hs,hz,r⟩
 ·obtain⟨z,its,n,r,e⟩:=h.ok I.hok;exact⟨its,r,⟨_,n,e,1,1,1⟩,z⟩
 ·refine⟨its.toList,r,⟨o,n,I.kIn a o O,U,hd,by simpa using hs⟩,?_⟩
  have e:=r.length;simp only [uX] at e;omega
theorem Inv.tuple (I:Inv X oq σ H s)(h:SqT X.K H a xs):∃its:oj o6,Vals xs its/\IsTup s.heap a its.toArray/\xs.length<=sizeLine:=by
 rcases h with h|⟨o,its,n,O,U,hs,hz,r⟩
 ·obtain⟨z,its,r,p⟩:=h.ok I.hok;exact⟨its,r,p,z⟩
 ·refine⟨its.toList,r,⟨o,I.kIn a o O,U,n,by simpa using hs⟩,?_⟩
  have e:=r.length;simp only [uX] at e;omega
theorem Inv.list_inj (I:Inv X oq σ H s)(h:SqL X.K H a xs)(h':SqL X.K H a ys):xs=ys:=by
 obtain⟨its,r,⟨o,n,e,_,_,d⟩,_⟩:=I.list h;obtain⟨its',U,⟨o',n',O,_,_,d'⟩,_⟩:=I.list h';rw [e] at O;cases O;rw [d] at d';injection d' with d1 _
 have:its=its':=by simpa using congrArg Array.toList d1
 subst this;exact r.inj U
theorem Inv.tuple_inj (I:Inv X oq σ H s)(h:SqT X.K H a xs)(h':SqT X.K H a ys):xs=ys:=by
 obtain⟨its,r,⟨o,e,_,n,d⟩,_⟩:=I.tuple h;obtain⟨its',U,⟨o',O,_,n',d'⟩,_⟩:=I.tuple h';rw [e] at O;cases O;rw [d] at d';injection d' with d1 _
 have:its=its':=by simpa using congrArg Array.toList d1
 subst this;exact r.inj U
end
abbrev Cx.wish (X:Cx)(E:o6->o7->Prop):Cx:={X with xe:=E}
abbrev Cx.nox (X:Cx):Cx:=X.wish λ_ _=>False
theorem Cx.Ok.wish {X:Cx}(ok:X.Ok)(E:o6->o7->Prop):(X.wish E).Ok:=
 ⟨ok.mod,ok.kind,ok.glob,ok.blt,ok.above,ok.inj,ok.has,ok.cab,ok.hd,ok.frames,ok.stk,ok.exf,ok.bs,ok.bsz,ok.noex,ok.exfs,ok.funs,ok.frf⟩
theorem Cx.Ok.unwish {X:Cx}{E:o6->o7->Prop}(ok:(X.wish E).Ok):X.Ok:=
 ⟨ok.mod,ok.kind,ok.glob,ok.blt,ok.above,ok.inj,ok.has,ok.cab,ok.hd,ok.frames,ok.stk,ok.exf,ok.bs,ok.bsz,ok.noex,ok.exfs,ok.funs,ok.frf⟩
section
variable {X:Cx}{oq:oj (o3×Obj)}{σ:St}{H:Hp}{s:o7}{E:o6->o7->Prop}
theorem Inv.wish (I:Inv X oq σ H s)(E:o6->o7->Prop):Inv (X.wish E) oq σ H s:=⟨I.ok.wish E,I.os,I.bare,I.base,I.loc,I.cell,I.free,I.freeC,I.pin,I.hok,I.len,I.tk⟩
theorem Inv.unwish (I:Inv (X.wish E) oq σ H s):Inv X oq σ H s:=⟨I.ok.unwish,I.os,I.bare,I.base,I.loc,I.cell,I.free,I.freeC,I.pin,I.hok,I.len,I.tk⟩
theorem SP.unwish {D:Ends}{f:Flow}{s':o7}(h:SP (X.wish E) oq D f s'):SP X oq D f s':=by
 cases f with
 |next=>obtain⟨O,H',I,q⟩:=h;exact⟨O,H',I.unwish,q⟩
 |brk=>obtain⟨O,H',I,q⟩:=h;exact⟨O,H',I.unwish,q⟩
 |cont=>obtain⟨O,H',I,q⟩:=h;exact⟨O,H',I.unwish,q⟩
 |ret u=>obtain⟨v,O,H',I,r,q⟩:=h;exact⟨v,O,H',I.unwish,r,q⟩
theorem PSs.nox {st:oj Stmt}{t:TS}(h:PSs X.nox st t):PSs X st t:=λoq s σ H D I hw=>
 vg (h oq s σ H D (I.wish _) hw) (λ_ _ q=>q.unwish) λ_ _ z=>False.elim z
end
section
variable {X:Cx}{st:Stmt}{rest:oj Stmt}{t u:TS}{e:Expr}{te:TE}{pos:Pos}
def tNext:TS:=λD σ H=>D.nx σ H
def tSeq (t u:TS):TS:=λD σ H=>t {D with nx:=u D} σ H
theorem qw:PSs X [] tNext:=λ_ _ σ H _ I h=>Uc ⟨σ,H,I,h⟩
theorem qc (h1:PS X st t)(h2:PSs X rest u):PSs X (st::rest) (tSeq t u):=by
 intro oq s σ H D I h;refine wpAny_execs_cons (thn (h1 oq s σ H {D with nx:=u D} I h) λf s1 q=> ?_)
 cases f with
 |next=>
  obtain⟨O,H',U,q⟩:=q;exact h2 oq s1 O H' D U q
 |ret v=>exact q
 |brk=>exact q
 |cont=>exact q
theorem qe (h1:PS X st t):PSs X [st] t:=by
 intro oq s σ H D I h;refine wpAny_execs_cons (thn (h1 oq s σ H D I h) λf s1 q=> ?_);cases f with
 |next=>exact Uc q
 |ret v=>exact q
 |brk=>exact q
 |cont=>exact q
def tBreak:TS:=λD σ H=>D.bk σ H
def tCont:TS:=λD σ H=>D.ct σ H
theorem ps_pass:PS X (.Pass pos) tNext:=λ_ _ σ H _ I h=>wpAny_Pass ⟨σ,H,I,h⟩
theorem ps_break:PS X (.Break pos) tBreak:=λ_ _ σ H _ I h=>wpAny_Break ⟨σ,H,I,h⟩
theorem ps_continue:PS X (.Continue pos) tCont:=λ_ _ σ H _ I h=>wpAny_Continue ⟨σ,H,I,h⟩
theorem Inv.quiet {oq:oj (o3×Obj)}{σ:St}{H:Hp}{s:o7}(I:Inv X oq σ H s):interactive X.env=false:=by simp [interactive,I.ok.kind]
def tDrop (te:TE):TS:=λD σ H=>te σ H λ_ H1=>D.nx σ H1
theorem qU (O:PE X e te)(U:swapsWith e none pos.line X.env=pure false):PS X (.Expr e pos) (tDrop te):=by
 intro oq s σ H D I h;exact wpAny_Expr_any (thn (O oq s σ H _ I h) λv s1 ⟨x,H1,I1,r1,q1⟩=>⟨σ,H1,I1,q1⟩) I.quiet U
def tRet (te:TE):TS:=λD σ H=>te σ H D.rt
theorem qq (O:PE X e te):PS X (.Return (some e) pos) (tRet te):=by
 intro oq s σ H D I h;exact wpAny_Return_some (thn (O oq s σ H _ I h) λv s1 ⟨x,H1,U,r1,q1⟩=>⟨x,σ,H1,U,r1,q1⟩)
def tRetN:TS:=λD _ H=>D.rt .non H
theorem ps_retN:PS X (.Return none pos) tRetN:=λ_ _ σ H _ I h=>wpAny_Return_none ⟨.non,σ,H,I,1,h⟩
def tIfS (c:TT)(t u:TS):TS:=λD σ H=>c σ H λb H1=>if b=true then t D σ H1 else u D σ H1
theorem qI {c:Expr}{a b:oj Stmt}{tc:TT}(U:PT X c tc)(ha:PSs X a t)(hb:PSs X b u):PS X (.If c a b pos) (tIfS tc t u):=by
 intro oq s σ H D I h;refine wpAny_If (thn (U oq s σ H _ I h) λd s1 ⟨H1,O,q1⟩=> ?_);cases d with
 |true=>exact ha oq s1 σ H1 D O q1
 |false=>exact hb oq s1 σ H1 D O q1
def tNever:TS:=λ_ _ _=>False
theorem YO:PS X st tNever:=λ_ _ _ _ _ _ h=>h.elim
end
abbrev TG:=V->St->Hp->(St->Hp->Prop)->Prop
abbrev TGs:=oj V->St->Hp->(St->Hp->Prop)->Prop
def PG (X:Cx)(target:Expr)(t:TG):Prop:=
 ∀(oq:oj (o3×Obj)) (s:o7) (σ:St) (H:Hp) (v:V) (u:o6) (Q:St->Hp->Prop),Inv X oq σ H s->RelV v u->t v σ H Q->
  wpAny (model X.prog X.w) X.A (assign target X.env u) (λ_ s'=>∃σ' H',Inv X oq σ' H' s'/\Q σ' H') X.xe s
def PGs (X:Cx)(ts:oj Expr)(t:TGs):Prop:=
 ∀(oq:oj (o3×Obj)) (s:o7) (σ:St) (H:Hp) (vs:oj V) (us:oj o6) (Q:St->Hp->Prop),Inv X oq σ H s->Vals vs us->t vs σ H Q->
  wpAny (model X.prog X.w) X.A (assignInOrder ((assignEach ts X.env).map (·.2)) us) (λ_ s'=>∃σ' H',Inv X oq σ' H' s'/\Q σ' H') X.xe s
abbrev TSet:=V->V->V->Hp->(Hp->Prop)->Prop
def PSet (X:Cx)(t:TSet):Prop:=
 ∀(oq:oj (o3×Obj)) (s:o7) (σ:St) (H:Hp) (o i v:V) (ov iv u:o6) (Q:Hp->Prop),Inv X oq σ H s->RelV o ov->RelV i iv->RelV v u->t o i v H Q->
  wpAny (model X.prog X.w) X.A (setItem ov iv u) (λ_ s'=>∃H',Inv X oq σ H' s'/\Q H') X.xe s
abbrev TIp:=V->V->Hp->VK->Prop
def PIp (X:Cx)(op:Operator)(t:TIp):Prop:=
 ∀(oq:oj (o3×Obj)) (s:o7) (σ:St) (H:Hp) (x y:V) (v u:o6) (Q:VK),Inv X oq σ H s->RelV x v->RelV y u->t x y H Q->
  wpAny (model X.prog X.w) X.A (inplaceOp op v u) (EP X oq σ Q) X.xe s
section
variable {X:Cx}{pos:Pos}
def YC (i:Nat):TG:=λv σ H Q=>Q (σ.set i (some v)) H
theorem qO {i:Nat}{x:Str}(O:X.N.Nodup)(hi:X.N[i]? =some x)(U:Loc X.env.scope x)(hf:X.fn x=true∨X.env.scope.names.lookup x=some .local):PG X (.Name x pos) (YC i):=by
 intro oq s σ H v u Q I r h;exact wpAny_assign_Name (xx I O hi U r (λs' I'=>⟨_,H,I',h⟩) hf)
def gNil:TGs:=λvs σ H Q=>vs= []/\Q σ H
def gCons (t:TG)(u:TGs):TGs:=λvs σ H Q=>∃v r,vs=v::r/\t v σ H λσ' H'=>u r σ' H' Q
theorem WK:PGs X [] gNil:=by
 intro oq s σ H vs us Q I r h;obtain⟨e,h⟩:=h;subst e;cases r;exact assignInOrder_nil ⟨σ,H,I,h⟩
theorem yY {e:Expr}{es:oj Expr}{t:TG}{u:TGs}(h1:PG X e t)(h2:PGs X es u)
  (O:(assignEach (e::es) X.env).map (·.2)=assign e X.env::(assignEach es X.env).map (·.2):=by rfl):PGs X (e::es) (gCons t u):=by
 intro oq s σ H vs us Q I r h;obtain⟨v,vr,U,h⟩:=h;subst U;cases r with
 |cons r rr=>
  rw [O];refine assignInOrder_cons (thn (h1 oq s σ H _ _ _ I r h) λ_ s1 ⟨σ1,H1,I1,q1⟩=> ?_);exact h2 oq s1 σ1 H1 _ _ Q I1 rr q1
def gTup (K:o0)(n:Nat)(t:TGs):TG:=λv σ H Q=>∃a xs,v= .ref a/\SqT K H a xs/\xs.length=n/\t xs σ H Q
theorem pg_tup {es:oj Expr}{k:Nat}{t:TGs}{n:Nat}(hc:X.calm=true)(h:PGs X es t)
  (hn:(assignEach es X.env).length=n:=by rfl) (O:(assignEach es X.env).findIdx? (·.1)=none:=by rfl):PG X (.Tuple es k pos) (gTup X.K n t):=by
 intro oq s σ H v u Q I r U;obtain⟨a,xs,e1,hq,hl,U⟩:=U;subst e1;cases r;obtain⟨its,rv,ht,hz⟩:=I.tuple hq;refine assign_Tuple_tuple (I.ok.hd hc) ht (by simp [hn,<-hl,rv.length]) O λh' hx=> ?_
 have I1:Inv X oq σ H {s with heap:=h'}:=I.kept (t':=s.toks) λb o e=>hx b o (uI (uw e)) e
 exact h oq _ σ H xs _ Q I1 (by simpa using rv) U
def gSub (to ti:TE)(t:TSet):TG:=λv σ H Q=>to σ H λo H1=>ti σ H1 λi H2=>t o i v H2 λH3=>Q σ H3
theorem pg_sub {o i:Expr}{to U:TE}{t:TSet}(ho:PE X o to)(hi:PE X i U)(hs:PSet X t)
  (ha:∀v,assign (.Subscript o i pos) X.env v=(do
   let ov<-holding [v] (eval o X.env)
   let O<-holding [v,ov] (eval i X.env)
   standAt pos
   holding [v,ov,O] (setItem ov O v)
   release [v,ov,O] [])):PG X (.Subscript o i pos) (gSub to U t):=by
 intro oq s σ H v u Q I r h;rw [ha];refine wpAny_bind (wpAny_holding (thn (ho oq s σ H _ I h) λov s1 ⟨x,H1,I1,r1,q1⟩=> ?_));refine wpAny_bind (wpAny_holding (thn (hi oq s1 σ H1 _ I1 q1) λO s2 ⟨y,H2,I2,r2,q2⟩=> ?_));refine wpAny_bind (wpAny_standAt (wpAny_bind (wpAny_holding (thn (hs oq s2 σ H2 x y v ov O u _ I2 r1 r2 r q2) λ_ s3 ⟨H3,I3,q3⟩=> ?_))));exact wpAny_release ⟨σ,H3,I3,q3⟩
def tAsg (te:TE)(g:TG):TS:=λD σ H=>te σ H λx H1=>g x σ H1 D.nx
theorem ps_asg {tg e:Expr}{te:TE}{g:TG}(O:PE X e te)(U:PG X tg g)(hs:swapsWithSole [tg] e pos.line X.env=pure false)(hw:swappedStores [tg] e X.env=pure none)
  (h1:(assignEach [tg] X.env).map (·.2)= [assign tg X.env]):PS X (.Assign [tg] e pos) (tAsg te g):=by
 intro oq s σ H D I h;refine wpAny_Assign_stores (thn (O oq s σ H _ I h) λv s1 ⟨x,H1,I1,r1,q1⟩=> ?_) hs hw;rw [h1];exact thn (U oq s1 σ H1 x v _ I1 r1 q1) λ_ s2 q=>q
theorem qC {i:Nat}{x:Str}{e:Expr}{te:TE}{pos':Pos}(O:X.N.Nodup)(hi:X.N[i]? =some x)(U:Loc X.env.scope x)(he:PE X e te)(hs:swapsWith e (some (.Name x pos')) pos.line X.env=pure false)(hf:X.fn x=true∨X.env.scope.names.lookup x=some .local):
  PS X (.Assign [.Name x pos'] e pos) (tAsg te (YC i)):=by
 intro oq s σ H D I h;refine wpAny_Assign_Name (thn (he oq s σ H _ I h) λv s1 ⟨y,H1,I1,r1,q1⟩=> ?_) hs;exact xx I1 O hi U r1 (λs2 I2=>⟨_,H1,I2,q1⟩) hf
def tAug (i:Nat)(te:TE)(ti:TIp):TS:=λD σ H=>∃x,σ[i]? =some (some x)/\te σ H λy H1=>ti x y H1 λz H2=>D.nx (σ.set i (some z)) H2
theorem ps_aug {i:Nat}{x:Str}{e:Expr}{te:TE}{op:Operator}{ti:TIp}{pos':Pos}(hN:X.N.Nodup)(hi:X.N[i]? =some x)(hx:Loc X.env.scope x)(he:PE X e te)(ho:PIp X op ti)(hf:X.fn x=true∨X.env.scope.names.lookup x=some .local):
  PS X (.AugAssign (.Name x pos') op e pos) (tAug i te ti):=by
 intro oq s σ H D I h;obtain⟨v,e1,h⟩:=h;obtain⟨m,hn,hl⟩:=I.loc;have aa:Vis X.env.scope x:=by rcases hx with k|k;exact .inl k;exact .inr (.inl k)
 obtain⟨u,r,l⟩:=hl i x v hi e1 aa;refine wpAny_AugAssign_Name ?_;have go:wpAny (model X.prog X.w) X.A (eval e X.env) (λw s₂=>wpAny (model X.prog X.w) X.A (inplaceOp op u w) (λr s₃=>wpAny (model X.prog X.w) X.A (storeName X.env x r) (λ_=>SP X oq D .next) X.xe s₃) X.xe s₂) X.xe s:=by
  refine thn (he oq s σ H _ I h) λw s1 ⟨y,H1,I1,r1,q1⟩=> ?_;refine thn (ho oq s1 σ H1 v y u w _ I1 r r1 q1) λz s2 ⟨zv,H2,I2,r2,q2⟩=> ?_;exact xx I2 hN hi hx r2 (λs3 I3=>⟨_,H2,I3,q2⟩) hf
 rcases l with⟨O,hm⟩|⟨O,c,hc,U⟩
 ·exact wpAny_loadName_local I.ok.kind O hn hm go
 ·rcases O with O|O
  ·exact wpAny_loadName_cell I.ok.kind O hc U go
  ·rcases hx with k|k
   ·have:X.env.scope.names.lookup x=some .free:=O;rw [k] at this;cases this
   ·have:X.env.scope.names.lookup x=some .free:=O;rw [k] at this;cases this
def ipI (f:Int->Int->Int):TIp:=λx y H Q=>∃i j,x= .int i/\y= .int j/\Q (.int (f i j)) H
theorem ip_add:PIp X .Add (ipI λi j=>i+j):=by
 intro oq s σ H x y v u Q I O U h;obtain⟨i,j,e1,e2,q⟩:=h;subst e1;subst e2;obtain⟨t,rfl⟩:=O;obtain⟨t',rfl⟩:=U;exact iadd_int ⟨.int _,H,I.tok _,⟨0⟩,q⟩
def tWhile (c:TT)(tb:TS):TS:=λD σ H=>∃W:Nat->St->Hp->Prop,(∃m,W m σ H)/\∀m σ H,W m σ H->
 c σ H λb H1=>if b=true then∃N:St->Hp->Prop,(∀σ' H',N σ' H'->∃m',m'<m/\W m' σ' H')/\tb {D with nx:=N,ct:=N,bk:=D.nx} σ H1 else D.nx σ H1
theorem zB {c:Expr}{O:oj Stmt}{tc:TT}{tb:TS}(hp:PassesOwn (model X.prog X.w) X.A X.env X.xe)(hc:PT X c tc)(hb:PSs X O tb):PS X (.While c O [] pos) (tWhile tc tb):=by
 intro oq s σ H D I h;obtain⟨W,⟨m0,w0⟩,U⟩:=h;refine wpAny_While (codeAny_whileLoop (λn s'=>∃σ' H',Inv X oq σ' H' s'/\W n σ' H') ?_ m0 ⟨σ,H,I,w0⟩);rintro n s1 ⟨σ1,H1,I1,w1⟩;refine vQ hp (thn (hc oq s1 σ1 H1 _ I1 (U n σ1 H1 w1)) λb s2 ⟨H2,I2,q2⟩=> ?_);cases b with
 |true=>
  obtain⟨N,hN,q2⟩:=q2;rw [if_pos rfl];refine vQ hp (thn (hb oq s2 σ1 H2 _ I2 q2) λf s3 q3=> ?_);cases f with
  |next=>
   obtain⟨σ3,H3,I3,n3⟩:=q3;obtain⟨m',hm,w3⟩:=hN σ3 H3 n3;exact⟨m',hm,σ3,H3,I3,w3⟩
  |cont=>
   obtain⟨σ3,H3,I3,n3⟩:=q3;obtain⟨m',hm,w3⟩:=hN σ3 H3 n3;exact⟨m',hm,σ3,H3,I3,w3⟩
  |brk=>exact q3
  |ret v=>exact q3
 |false=>
  rw [if_neg u8];exact Uc ⟨σ1,H2,I2,q2⟩
end
structure It where
 go:Nat->Hp->Prop
 yld:Nat->Hp->V->Hp->Prop
 stop:Nat->Hp->Prop
def FpOk (X:Cx)(oq:oj (o3×Obj))(H:Hp)(b:o3):Prop:=
 H b=none/\b≠X.env.locals/\b∉X.fs/\(b∈X.ex∨X.s₀.heap.objs.size<=b)/\(∀x c,X.env.cells.lookup x=some c->c≠b)/\∀p∈X.pn++oq,p.1≠b
theorem Inv.fpOk {X:Cx}{oq:oj (o3×Obj)}{σ:St}{H H':Hp}{s:o7}{b:o3}(I:Inv X oq σ H s)(O:s.heap.objs.size<=b)(hn:H' b=none):FpOk X oq H' b:=by
 refine⟨hn,Ud (Nat.lt_of_lt_of_le I.lt O),I.nofs O,.inr (uQ I.sz O),λx c e z=> ?_,λp U z=> ?_⟩
 ·obtain⟨v,q⟩:=I.cell x c e;exact absurd (Nat.lt_of_lt_of_le q.lt (by rw [z];exact O)) (vw _)
 ·exact absurd (Nat.lt_of_lt_of_le (uw (I.pin p U).1) (by rw [z];exact O)) (vw _)
structure Turn (P:o9)(w:og)(K:o0)(tg:Expr)(J:It)(fp:oj o3)(it:o3)(tn:Nat->o8->Prop):Prop where
 mem:it∈fp
 obj:∀i h,tn i h->∀b∈fp,∃o,h.get? b=some o/\∀v,o.data≠ .cell v
 keep:∀i h h',tn i h->(∀b∈fp,∀o,h.get? b=some o->h'.get? b=some o)->tn i h'
 item:∀(X:Cx),X.prog=P->X.w=w->X.K=K->X.calm=true->∀(i:Nat) (oq:oj (o3×Obj)) (s:o7) (σ:St) (H:Hp) (E:o6->o7->Prop),Inv X oq σ H s->(∀b∈fp,FpOk X oq H b)->tn i s.heap->J.go i H->
  wpAny (model P w) X.A (pyNext (.ref it)) (λr s1=>∃u,r=some u/\
   wpAny (model P w) X.A (letOwnedTupleGo tg (.ref it) u) (λ_ s2=>∃x H',Inv X oq σ H' s2/\RelV x u/\J.yld i H x H'/\tn (i+1) s2.heap/\∀b∈fp,H' b=none) E s1) E s
 done:∀(X:Cx),X.prog=P->X.w=w->X.K=K->X.calm=true->∀(i:Nat) (oq:oj (o3×Obj)) (s:o7) (σ:St) (H:Hp) (E:o6->o7->Prop),Inv X oq σ H s->(∀b∈fp,FpOk X oq H b)->tn i s.heap->J.stop i H->
  wpAny (model P w) X.A (pyNext (.ref it)) (λr s1=>r=none/\Inv X oq σ H s1) E s
 self:∀(A:oh) (i:Nat) (s:o7) (Q:o6->o7->Prop) (E:o6->o7->Prop),tn i s.heap->Q (.ref it) s->wpAny (model P w) A (pyIter (.ref it)) Q E s
abbrev TI:=St->Hp->(It->Hp->Prop)->Prop
def PIE (X:Cx)(oq:oj (o3×Obj))(σ:St)(tg:Expr)(R:It->Hp->Prop)(itv:o6)(s2:o7):Prop:=
 ∃(it:o3) (fp:oj o3) (tn:Nat->o8->Prop) (J:It) (H':Hp),itv= .ref it/\Inv X oq σ H' s2/\Turn X.prog X.w X.K tg J fp it tn/\tn 0 s2.heap/\(∀b∈fp,FpOk X oq H' b)/\R J H'
def PI (X:Cx)(tg iter:Expr)(wi:TI):Prop:=
 ∀(oq:oj (o3×Obj)) (s:o7) (σ:St) (H:Hp) (R:It->Hp->Prop),Inv X oq σ H s->wi σ H R->
  wpAny (model X.prog X.w) X.A (eval iter X.env) (λv s1=>wpAny (model X.prog X.w) X.A (pyIter v) (PIE X oq σ tg R) X.xe s1) X.xe s
theorem go_of {M:Model}{A:oh}{E:o6->o7->Prop}{s:o7}{tg:Expr}{it:o3}{u:o6}{o:Obj}{n:String}{vs:Array o6}{Q:Unit->o7->Prop}(U:s.heap.get? it=some o)(hc:o.cls= .type n)(hd:o.data= .fields vs)
  (hn: ["enumerate","zip","dict_itemiterator","dict_reverseitemiterator","odict_iterator","itertools.zip_longest","itertools.pairwise"].contains n=false) (O:Q Unit.unit s):wpAny M A (letOwnedTupleGo tg (.ref it) u) Q E s:=by
 unfold letOwnedTupleGo;cases tg<;>first
  |exact um O
  |(cases u<;>first
    |exact um O
    |(refine wpAny_bind (wpAny_load U ?_)
      rw [hc,hd];show wpAny M A (if(["enumerate","zip","dict_itemiterator","dict_reverseitemiterator","odict_iterator","itertools.zip_longest","itertools.pairwise"].contains n&&vs[0]? ==some (rawInt _))=true then _ else _) Q E s
      rw [if_neg (by intro h;rw [hn,Bool.false_and] at h;cases h)]
      exact um O))
def Itl (K:o0)(a:o3):It:=
 ⟨λi H=>∃xs x,SqL K H a xs/\xs[i]? =some x,λi H x H'=>H'=H/\∀xs,SqL K H a xs->xs[i]? =some x,λi H=>∃xs,SqL K H a xs/\xs.length<=i⟩
def Itt (K:o0)(a:o3):It:=
 ⟨λi H=>∃xs x,SqT K H a xs/\xs[i]? =some x,λi H x H'=>H'=H/\∀xs,SqT K H a xs->xs[i]? =some x,λi H=>∃xs,SqT K H a xs/\xs.length<=i⟩
def Itr (lo:Int)(n:Nat):It:=⟨λi _=>i<n,λi H x H'=>H'=H/\x= .int (lo+i),λi _=>n<=i⟩
theorem turn_list {P:o9}{w:og}{K:o0}{tg:Expr}(a it:o3):Turn P w K tg (Itl K a) [it] it (λi h=>h.IsListIter it a i) where
 mem:=by simp
 obj:=λi h st b O=>by
  have e:b=it:=by simpa using O
  subst e;obtain⟨o,e,c,d⟩:=st;exact⟨o,e,λv z=>by rw [d] at z;cases z⟩
 keep:=λi h h' st k=>st.at λo e=>k it (by simp) o e
 item:=by
  intro X hP hw hK hc i oq s σ H E I hf st hg;subst hP hw hK;obtain⟨xs,x,hq,hx⟩:=hg;obtain⟨its,rv,p,hz⟩:=I.list hq;obtain⟨u,hu,ru⟩:=rv.get hx;obtain⟨f0,f1,f2,f3,f4,f5⟩:=hf it (by simp)
  refine wpAny_pyNext_list_item st p.isList (x:=u) (by simpa using hu) λh' U sb=> ?_
  have I1:Inv X oq σ H {s with heap:=h'}:=I.turned (t':=s.toks) (λb o O e=>(sb.2 b O).trans e) f0 f1 f3 f4 f5
  obtain⟨o,e,c,d⟩:=id U;exact⟨u,1,go_of (s:={s with heap:=h'}) e c d (by decide) ⟨x,H,I1,ru,⟨1,λys hy=>by rw [I.list_inj hy hq];exact hx⟩,U,λb O=>(hf b O).1⟩⟩
 done:=by
  intro X hP hw hK hc i oq s σ H E I hf st hg;subst hP hw hK;obtain⟨xs,hq,hx⟩:=hg;obtain⟨its,rv,p,hz⟩:=I.list hq;obtain⟨f0,f1,f2,f3,f4,f5⟩:=hf it (by simp)
  have hl:=rv.length;exact wpAny_pyNext_list_end (I.ok.hd hc) st p.isList (by simp;omega) λh' eb=>⟨1,I.turned (t':=s.toks) (λb o O e=>eb b o O e) f0 f1 f3 f4 f5⟩
 self:=λ_ _ _ _ _ st h=>wpAny_pyIter_listiter st h
theorem wj {P:o9}{w:og}{K:o0}{tg:Expr}(a it:o3):Turn P w K tg (Itt K a) [it] it (λi h=>h.IsTupleIter it a i) where
 mem:=by simp
 obj:=λi h st b O=>by
  have e:b=it:=by simpa using O
  subst e;obtain⟨o,e,c,d⟩:=st;exact⟨o,e,λv z=>by rw [d] at z;cases z⟩
 keep:=λi h h' st k=>st.at λo e=>k it (by simp) o e
 item:=by
  intro X hP hw hK hc i oq s σ H E I hf st hg;subst hP hw hK;obtain⟨xs,x,hq,hx⟩:=hg;obtain⟨its,rv,p,hz⟩:=I.tuple hq;obtain⟨u,hu,ru⟩:=rv.get hx;obtain⟨f0,f1,f2,f3,f4,f5⟩:=hf it (by simp)
  refine wpAny_pyNext_tuple_item st (show s.heap.IsTuple a its.toArray from p) (x:=u) (by simpa using hu) λh' U sb=> ?_
  have I1:Inv X oq σ H {s with heap:=h'}:=I.turned (t':=s.toks) (λb o O e=>(sb.2 b O).trans e) f0 f1 f3 f4 f5
  obtain⟨o,e,c,d⟩:=id U;exact⟨u,1,go_of (s:={s with heap:=h'}) e c d (by decide) ⟨x,H,I1,ru,⟨1,λys hy=>by rw [I.tuple_inj hy hq];exact hx⟩,U,λb O=>(hf b O).1⟩⟩
 done:=by
  intro X hP hw hK hc i oq s σ H E I hf st hg;subst hP hw hK;obtain⟨xs,hq,hx⟩:=hg;obtain⟨its,rv,p,hz⟩:=I.tuple hq;obtain⟨f0,f1,f2,f3,f4,f5⟩:=hf it (by simp)
  have hl:=rv.length;exact wpAny_pyNext_tuple_end (I.ok.hd hc) st (show s.heap.IsTuple a its.toArray from p) (by simp;omega) λh' eb=>⟨1,I.turned (t':=s.toks) (λb o O e=>eb b o O e) f0 f1 f3 f4 f5⟩
 self:=λ_ _ _ _ _ st h=>wpAny_pyIter_tupleiter st h
theorem turn_range {P:o9}{w:og}{K:o0}{tg:Expr}(it:o3)(lo:Int)(n:Nat):Turn P w K tg (Itr lo n) [it] it (λi h=>IsRangeIter h it (lo+(i:Nat)*1) ((n:Int)-(i:Nat)) 1) where
 mem:=by simp
 obj:=λi h st b O=>by
  have e:b=it:=by simpa using O
  subst e;exact⟨_,st,λv z=>by
   have z':Data.fields _=Data.cell v:=z;cases z'⟩
 keep:=λi h h' st k=>k it (by simp) _ st
 item:=by
  intro X hP hw hK hc i oq s σ H E I hf st hg;subst hP hw hK;obtain⟨f0,f1,f2,f3,f4,f5⟩:=hf it (by simp)
  have W:=Walks.range (prog:=X.prog) (w:=X.w) (I.ok.hd hc) it lo 1 n;refine uN (n:=1) I.tk (W.item i s _ _ hg st λv h' tk hv U kk=> ?_);intro htk;obtain⟨t,rfl⟩:=hv;have I1:Inv X oq σ H {s with heap:=h',toks:=tk}:=I.turned (λb o O e=>kk b o (by simpa using O) e) f0 f1 f3 f4 f5
  refine⟨0,go_of (s:={s with heap:=h',toks:=tk}) (n:="range_iterator") U rfl rfl (by decide) ⟨.int (lo+i),H,I1,⟨t,?_⟩,⟨1,1⟩,U,λb O=>(hf b O).1⟩⟩
  rw [Int.mul_one]
 done:=by
  intro X hP hw hK hc i oq s σ H E I hf st hg;subst hP hw hK;obtain⟨f0,f1,f2,f3,f4,f5⟩:=hf it (by simp)
  exact wpAny_pyNext_range_end (I.ok.hd hc) st (by have:n<=i:=hg;omega) λh' eb=>⟨1,I.turned (t':=s.toks) (λb o O e=>eb b o O e) f0 f1 f3 f4 f5⟩
 self:=λ_ _ _ _ _ st h=>wpAny_pyIter_rangeiter st h
section
variable {X:Cx}{tg:Expr}
def iList (K:o0)(tl:TE):TI:=λσ H R=>tl σ H λx H1=>∃a,x= .ref a/\(∃xs,SqL K H1 a xs)/\R (Itl K a) H1
def iTup (K:o0)(tl:TE):TI:=λσ H R=>tl σ H λx H1=>∃a,x= .ref a/\(∃xs,SqT K H1 a xs)/\R (Itt K a) H1
theorem JT {l:Expr}{tl:TE}(U:PE X l tl):PI X tg l (iList X.K tl):=by
 intro oq s σ H R I h;refine thn (U oq s σ H _ I h) λv s1 ⟨x,H1,O,r1,q1⟩=> ?_;obtain⟨a,e,⟨xs,hq⟩,q⟩:=q1;subst e;cases r1;obtain⟨its,rv,p,hz⟩:=O.list hq;refine UC p.isList ?_;refine⟨s1.heap.objs.size,[s1.heap.objs.size],_,_,H1,1,O.kept (t':=s1.toks) λb o e=>ua _ e,turn_list a _,⟨_,uz _ rfl,1,1⟩,λb hb=> ?_,q⟩;have e:b=s1.heap.objs.size:=by simpa using hb
 subst e;exact O.fpOk (ug _) (O.hok.fresh (ug _))
theorem pi_tup {l:Expr}{tl:TE}(U:PE X l tl):PI X tg l (iTup X.K tl):=by
 intro oq s σ H R I h;refine thn (U oq s σ H _ I h) λv s1 ⟨x,H1,O,r1,q1⟩=> ?_;obtain⟨a,e,⟨xs,hq⟩,q⟩:=q1;subst e;cases r1;obtain⟨its,rv,p,hz⟩:=O.tuple hq;refine wpAny_pyIter_tuple (show s1.heap.IsTuple a its.toArray from p) ?_
 refine⟨s1.heap.objs.size,[s1.heap.objs.size],_,_,H1,1,O.kept (t':=s1.toks) λb o e=>ua _ e,wj a _,⟨_,uz _ rfl,1,1⟩,λb hb=> ?_,q⟩;have e:b=s1.heap.objs.size:=by simpa using hb
 subst e;exact O.fpOk (ug _) (O.hok.fresh (ug _))
theorem range_it {oq:oj (o3×Obj)}{σ:St}{H:Hp}{s:o7}{R:It->Hp->Prop}{E:o6->o7->Prop}{lo hi:Int}{t u v:Tok}{tk:Nat}(I:Inv X oq σ H s)(h1: -(2^62)<=lo)(h2:lo<2^62)(U: -(2^62)<=hi)(h4:hi<2^62)
  (q:R (Itr lo (hi-lo).toNat) H) (htk:0<tk:=by ac_rfl):wpAny (model X.prog X.w) X.A (pyIter (.ref s.heap.objs.size)) (PIE X oq σ tg R) E {s with heap:=s.heap.push {cls:= .type "range",data:= .fields #[.int lo t,.int hi u,.int 1 v]},toks:=tk}:=by
 refine wpAny_pyIter_range (IsRange.new ..) (small_one h1 h2 U h4) ?_;have O:Inv X oq σ H {s with heap:=s.heap.push {cls:= .type "range",data:= .fields #[.int lo t,.int hi u,.int 1 v]},toks:=tk}:=I.kept λb o e=>ua _ e
 refine⟨(s.heap.push {cls:= .type "range",data:= .fields #[.int lo t,.int hi u,.int 1 v]}).objs.size,[(s.heap.push {cls:= .type "range",data:= .fields #[.int lo t,.int hi u,.int 1 v]}).objs.size],_,_,H,1,
  O.kept (t':=tk) λb o e=>ua _ e,turn_range _ lo (hi-lo).toNat,?_,λb hb=> ?_,q⟩
 ·have e1:lo+((0:Nat):Int)*1=lo:=by simp
  have e2:(((hi-lo).toNat:Nat):Int)-((0:Nat):Int)=Builtin.Range.rangeSize lo hi 1:=by rw [rangeSize_one];split<;>omega
  show IsRangeIter _ _ (lo+((0:Nat):Int)*1) ((((hi-lo).toNat:Nat):Int)-((0:Nat):Int)) 1;rw [e1,e2];exact uz _ rfl
 ·have e:b=(s.heap.push {cls:= .type "range",data:= .fields #[.int lo t,.int hi u,.int 1 v]}).objs.size:=by simpa using hb
  subst e;exact O.fpOk (ug _) (O.hok.fresh (ug _))
def iRng1 (ta:TA):TI:=λσ H R=>ta σ H λvs H1=>∃j:Int,vs= [.int j]/\ -(2^62)<=j/\j<2^62/\R (Itr 0 j.toNat) H1
def iRng2 (ta:TA):TI:=λσ H R=>ta σ H λvs H1=>∃i j:Int,vs= [.int i,.int j]/\(-(2^62)<=i/\i<2^62/\ -(2^62)<=j/\j<2^62)/\R (Itr i (j-i).toNat) H1
theorem jt {a:Expr}{ta:TA}{p pos:Pos}(O:Gl X "range")(hm:X.mg "range"=none)(ha:PA X [a] ta)(U:starEach [a] X.env= [(false,eval a X.env)]):PI X tg (.Call (.Name "range" p) [a] [] pos) (iRng1 ta):=by
 intro oq s σ H R I h;refine Call_ (wx I O hm boot_range (vE (thn (ha pos oq s σ H _ I h) λus s1 ⟨vs,H1,I1,r1,q1⟩=> ?_) U rfl));obtain⟨j,e,q1,q2,q⟩:=q1;subst e;cases r1 with
 |cons r rr=>
  cases rr;obtain⟨t,rfl⟩:=r;exact call_range_1 (range_it I1 (by omega) (by omega) q1 q2 (by simpa using q))
theorem pi_range2 {a b:Expr}{ta:TA}{p pos:Pos}(hg:Gl X "range")(hm:X.mg "range"=none)(ha:PA X [a,b] ta)(hs:starEach [a,b] X.env= [(false,eval a X.env),(false,eval b X.env)])(O:starEach [b] X.env= [(false,eval b X.env)]):
  PI X tg (.Call (.Name "range" p) [a,b] [] pos) (iRng2 ta):=by
 intro oq s σ H R I h;refine Call_ (wx I hg hm boot_range (vE (thn (ha pos oq s σ H _ I h) λus s1 ⟨vs,H1,I1,r1,q1⟩=> ?_) (by rw [hs,O]) (by rw [O];rfl)))
 obtain⟨i,j,e,⟨q1,q2,q3,q4⟩,q⟩:=q1;subst e;cases r1 with
 |cons r U=>
  cases U with
  |cons r' U=>
   cases U;obtain⟨t,rfl⟩:=r;obtain⟨t',rfl⟩:=r';exact call_range_2 (range_it I1 q1 q2 q3 q4 q)
def tFor (wi:TI)(g:TG)(tb:TS):TS:=λD σ H=>wi σ H λJ H1=>∃W:Nat->Nat->St->Hp->Prop,(∃m,W 0 m σ H1)/\∀i m σ H,W i m σ H->
 (J.stop i H/\D.nx σ H)∨(J.go i H/\∃N:St->Hp->Prop,(∀σ' H',N σ' H'->∃m',m'<m/\W (i+1) m' σ' H')/\∀x H',J.yld i H x H'->g x σ H' λσ2 H2=>tb {D with nx:=N,ct:=N,bk:=D.nx} σ2 H2)
def pinsAt (fp:oj o3)(h:o8):oj (o3×Obj):=fp.filterMap λb=>(h.get? b).map λo=>(b,o)
theorem Jc {fp:oj o3}{h:o8}{b:o3}{o:Obj}(O:b∈fp)(e:h.get? b=some o):(b,o)∈pinsAt fp h:=List.mem_filterMap.mpr ⟨b,O,by rw [e];rfl⟩
theorem of_pinsAt {fp:oj o3}{h:o8}{p:o3×Obj}(O:p∈pinsAt fp h):p.1∈fp/\h.get? p.1=some p.2:=by
 obtain⟨b,U,e⟩:=List.mem_filterMap.mp O;cases q:h.get? b with
 |none=>rw [q] at e;cases e
 |some o=>
  rw [q] at e;have e':(b,o)=p:=uE e;subst e';exact⟨U,q⟩
theorem Inv.pinned {oq:oj (o3×Obj)}{σ:St}{H:Hp}{s:o7}{fp:oj o3}(I:Inv X oq σ H s)(hf:∀b∈fp,FpOk X oq H b)(ho:∀b∈fp,∃o,s.heap.get? b=some o/\∀v,o.data≠ .cell v):Inv X (oq++pinsAt fp s.heap) σ H s:=
 I.pins_of λp hp=>(List.mem_append.mp hp).elim (λz=>I.pin p (uL _ z)) λz=>by
  obtain⟨O,e⟩:=of_pinsAt z;obtain⟨f0,f1,f2,_⟩:=hf p.1 O;obtain⟨o,U,d⟩:=ho p.1 O;rw [e] at U;cases U;exact⟨e,f0,f1,f2,d⟩
theorem Inv.unpinned {oq pl:oj (o3×Obj)}{σ:St}{H:Hp}{s:o7}(I:Inv X (oq++pl) σ H s):Inv X oq σ H s:=I.pins_of λp O=>I.pin p (uL _ (vC _ O))
theorem jv {O:Expr}{ad:oj Stmt}{wi:TI}{g:TG}{tb:TS}{pos:Pos}(hp:PassesOwn (model X.prog X.w) X.A X.env X.xe)(hc:X.calm=true)(hi:PI X tg O wi)(hg:PG X tg g)(U:PSs X ad tb)
  (hs:∀x,foldedSetIterable O X.env x=pure x):PS X (.For tg O ad [] pos) (tFor wi g tb):=by
 intro oq s σ H D I h;refine wpAny_For (thn (hi oq s σ H _ I h) λv s1 h1=>thn h1 λao s2 h2=> ?_) hs;obtain⟨it,fp,tn,J,H2,e,I2,T,ak,f2,W,⟨m0,w0⟩,af⟩:=h2;subst e;have aa:∀{H':Hp},(∀b∈fp,H' b=none)->∀b∈fp,FpOk X oq H' b:=λhn b U=>⟨hn b U,(f2 b U).2⟩;refine codeAny_forLoop_any (λn s'=>∃i σ' H',Inv X oq σ' H' s'/\tn i s'.heap/\(∀b∈fp,H' b=none)/\W i n σ' H') ?_ m0 ⟨(0),σ,H2,I2,ak,λb U=>(f2 b U).1,w0⟩;rintro n s3 ⟨i,σ3,H3,I3,ag,ah,w3⟩;rcases af i n σ3 H3 w3 with⟨stop,qn⟩|⟨go,N,hN,step⟩
 ·refine vQ hp (thn (T.done X rfl rfl rfl hc i oq s3 σ3 H3 X.xe I3 (aa ah) ag stop) λr s4 ⟨hr,I4⟩=> ?_);subst hr;exact Uc ⟨σ3,H3,I4,qn⟩
 ·refine vQ hp (thn (T.item X rfl rfl rfl hc i oq s3 σ3 H3 X.xe I3 (aa ah) ag go) λr s4 ⟨u,hr,h4⟩=> ?_);subst hr;refine vQ hp (thn h4 λ_ s5 ⟨x,H5,I5,r5,y5,ae,al⟩=> ?_);have am:=I5.pinned (aa al) (T.obj _ _ ae);refine vQ hp (thn (hg _ s5 σ3 H5 x u _ am r5 (step x H5 y5)) λ_ s6 ⟨σ6,H6,I6,q6⟩=> ?_);refine vQ hp (thn (U _ s6 σ6 H6 _ I6 q6) λf s7 q7=> ?_);have ac:∀{σ7:St}{H7:Hp},Inv X (oq++pinsAt fp s5.heap) σ7 H7 s7->N σ7 H7->∃m,m<n/\∃i σ' H',Inv X oq σ' H' s7/\tn i s7.heap/\(∀b∈fp,H' b=none)/\W i m σ' H':=λ{σ7 H7} I7 n7=>by
   obtain⟨m',hm,w7⟩:=hN σ7 H7 n7;refine⟨m',hm,i+1,σ7,H7,I7.unpinned,T.keep _ _ _ ae λb U o e=>(I7.pin (b,o) (uL _ (uL _ (Jc U e)))).1,λb U=> ?_,w7⟩;obtain⟨o,e,d⟩:=T.obj _ _ ae b U;exact(I7.pin (b,o) (uL _ (uL _ (Jc U e)))).2.1
  cases f with
  |next=>obtain⟨σ7,H7,I7,n7⟩:=q7;exact ac I7 n7
  |cont=>obtain⟨σ7,H7,I7,n7⟩:=q7;exact ac I7 n7
  |brk=>obtain⟨σ7,H7,I7,q7⟩:=q7;exact⟨σ7,H7,I7.unpinned,q7⟩
  |ret v=>obtain⟨x7,σ7,H7,I7,r7,q7⟩:=q7;exact⟨x7,σ7,H7,I7.unpinned,r7,q7⟩
end
theorem zx {K:o0}{a:o3}{xs:oj V}{g:TG}{tb:TS}{D:Ends}{σ:St}{H:Hp}(O:Nat->St->Hp->Prop)(h0:O 0 σ H)(hl:∀i σ H,i<=xs.length->O i σ H->SqL K H a xs)
  (hs:∀i x σ H,xs[i]? =some x->O i σ H->g x σ H λσ2 H2=>tb {D with nx:=O (i+1),ct:=O (i+1),bk:=D.nx} σ2 H2) (hd:∀σ H,O xs.length σ H->D.nx σ H):
  ∃W:Nat->Nat->St->Hp->Prop,(∃m,W 0 m σ H)/\∀i m σ H,W i m σ H->
   ((Itl K a).stop i H/\D.nx σ H)∨((Itl K a).go i H/\∃N:St->Hp->Prop,(∀σ' H',N σ' H'->∃m',m'<m/\W (i+1) m' σ' H')/\∀x H',(Itl K a).yld i H x H'->g x σ H' λσ2 H2=>tb {D with nx:=N,ct:=N,bk:=D.nx} σ2 H2):=by
 refine⟨λi m σ H=>m=xs.length-i/\i<=xs.length/\O i σ H,⟨xs.length,by simp,uW _,h0⟩,?_⟩
 rintro i m σ H ⟨rfl,hi,p⟩;have q:=hl i σ H hi p;by_cases U:i<xs.length
 ·refine .inr ⟨⟨xs,xs[i],q,by simp [U]⟩,O (i+1),λσ' H' p'=>⟨xs.length-(i+1),by omega,1,U,p'⟩,λx H' y=> ?_⟩
  obtain⟨e,y⟩:=y;subst e;exact hs i x σ _ (y xs q) p
 ·have e:i=xs.length:=by omega
  subst e;exact .inl ⟨⟨xs,q,ug _⟩,hd σ H p⟩
theorem Wk {K:o0}{a:o3}{xs:oj V}{g:TG}{tb:TS}{D:Ends}{σ:St}{H:Hp}(O:Nat->St->Hp->Prop)(h0:O 0 σ H)(hl:∀i σ H,i<=xs.length->O i σ H->SqT K H a xs)
  (hs:∀i x σ H,xs[i]? =some x->O i σ H->g x σ H λσ2 H2=>tb {D with nx:=O (i+1),ct:=O (i+1),bk:=D.nx} σ2 H2) (hd:∀σ H,O xs.length σ H->D.nx σ H):
  ∃W:Nat->Nat->St->Hp->Prop,(∃m,W 0 m σ H)/\∀i m σ H,W i m σ H->
   ((Itt K a).stop i H/\D.nx σ H)∨((Itt K a).go i H/\∃N:St->Hp->Prop,(∀σ' H',N σ' H'->∃m',m'<m/\W (i+1) m' σ' H')/\∀x H',(Itt K a).yld i H x H'->g x σ H' λσ2 H2=>tb {D with nx:=N,ct:=N,bk:=D.nx} σ2 H2):=by
 refine⟨λi m σ H=>m=xs.length-i/\i<=xs.length/\O i σ H,⟨xs.length,by simp,uW _,h0⟩,?_⟩
 rintro i m σ H ⟨rfl,hi,p⟩;have q:=hl i σ H hi p;by_cases U:i<xs.length
 ·refine .inr ⟨⟨xs,xs[i],q,by simp [U]⟩,O (i+1),λσ' H' p'=>⟨xs.length-(i+1),by omega,1,U,p'⟩,λx H' y=> ?_⟩
  obtain⟨e,y⟩:=y;subst e;exact hs i x σ _ (y xs q) p
 ·have e:i=xs.length:=by omega
  subst e;exact .inl ⟨⟨xs,q,ug _⟩,hd σ H p⟩
theorem for_range {lo:Int}{n:Nat}{g:TG}{tb:TS}{D:Ends}{σ:St}{H:Hp}(O:Nat->St->Hp->Prop)(h0:O 0 σ H)
  (hs:∀i σ H,i<n->O i σ H->g (.int (lo+i)) σ H λσ2 H2=>tb {D with nx:=O (i+1),ct:=O (i+1),bk:=D.nx} σ2 H2) (hd:∀σ H,O n σ H->D.nx σ H):
  ∃W:Nat->Nat->St->Hp->Prop,(∃m,W 0 m σ H)/\∀i m σ H,W i m σ H->
   ((Itr lo n).stop i H/\D.nx σ H)∨((Itr lo n).go i H/\∃N:St->Hp->Prop,(∀σ' H',N σ' H'->∃m',m'<m/\W (i+1) m' σ' H')/\∀x H',(Itr lo n).yld i H x H'->g x σ H' λσ2 H2=>tb {D with nx:=N,ct:=N,bk:=D.nx} σ2 H2):=by
 refine⟨λi m σ H=>m=n-i/\i<=n/\O i σ H,⟨n,by simp,uW _,h0⟩,?_⟩
 rintro i m σ H ⟨rfl,hi,p⟩;by_cases U:i<n
 ·refine .inr ⟨U,O (i+1),λσ' H' p'=>⟨n-(i+1),by omega,1,U,p'⟩,λx H' y=> ?_⟩
  obtain⟨e,y⟩:=y;subst e y;exact hs i σ _ U p
 ·have e:i=n:=by omega
  subst e;exact .inl ⟨ug _,hd σ H p⟩
abbrev R2:=V->V->Hp->VK->Prop
def OpR (X:Cx)(f:o6->o6->Sem o6)(r:R2):Prop:=
 ∀(oq:oj (o3×Obj)) (s:o7) (σ:St) (H:Hp) (x y:V) (v u:o6) (Q:VK),Inv X oq σ H s->RelV x v->RelV y u->r x y H Q->
  wpAny (model X.prog X.w) X.A (f v u) (EP X oq σ Q) X.xe s
def UnR (X:Cx)(f:o6->Sem o6)(r:V->Hp->VK->Prop):Prop:=
 ∀(oq:oj (o3×Obj)) (s:o7) (σ:St) (H:Hp) (x:V) (v:o6) (Q:VK),Inv X oq σ H s->RelV x v->r x H Q->
  wpAny (model X.prog X.w) X.A (f v) (EP X oq σ Q) X.xe s
def y6 (X:Cx)(f:o6)(r:oj V->Hp->VK->Prop):Prop:=
 ∀(oq:oj (o3×Obj)) (s:o7) (σ:St) (H:Hp) (xs:oj V) (us:oj o6) (Q:VK),Inv X oq σ H s->Vals xs us->r xs H Q->
  wpAny (model X.prog X.w) X.A (call f us) (EP X oq σ Q) X.xe s
def TruR (X:Cx)(r:V->Hp->(Bool->Hp->Prop)->Prop):Prop:=
 ∀(oq:oj (o3×Obj)) (s:o7) (σ:St) (H:Hp) (x:V) (v:o6) (Q:Bool->Hp->Prop),Inv X oq σ H s->RelV x v->r x H Q->
  wpAny (model X.prog X.w) X.A (truthy v) (TP X oq σ Q) X.xe s
def tOp (r:R2)(ta tb:TE):TE:=λσ H Q=>ta σ H λx H1=>tb σ H1 λy H2=>r x y H2 Q
def tUn (r:V->Hp->VK->Prop)(ta:TE):TE:=λσ H Q=>ta σ H λx H1=>r x H1 Q
def rI (C:Int->Int->Prop)(g:Int->Int->V):R2:=λx y H Q=>∃i j,x= .int i/\y= .int j/\C i j/\Q (g i j) H
def rI0 (g:Int->Int->V):R2:=λx y H Q=>∃i j,x= .int i/\y= .int j/\Q (g i j) H
def rU (g:Int->V):V->Hp->VK->Prop:=λx H Q=>∃i,x= .int i/\Q (g i) H
section
variable {X:Cx}{a b c:Expr}{ta tb tc:TE}{pos:Pos}
theorem binT (ha:PE X a ta)(O:PE X b tb){oq:oj (o3×Obj)}{s:o7}{σ:St}{H:Hp}{R:V->V->Hp->Prop}(I:Inv X oq σ H s)
  (h:ta σ H λx H1=>tb σ H1 λy H2=>R x y H2) {Q:o6->o7->Prop}{f:o6->o6->Sem o6}
  (U:∀v u s2 x y H2,Inv X oq σ H2 s2->RelV x v->RelV y u->R x y H2->wpAny (model X.prog X.w) X.A (f v u) Q X.xe s2):
  wpAny (model X.prog X.w) X.A (eval a X.env) (λv s₁=>wpAny (model X.prog X.w) X.A (eval b X.env) (λu s₂=>wpAny (model X.prog X.w) X.A (f v u) Q X.xe s₂) X.xe s₁) X.xe s:=by
 refine thn (ha oq s σ H _ I h) λv s1 ⟨x,H1,I1,r1,q1⟩=> ?_;refine thn (O oq s1 σ H1 _ I1 q1) λu s2 ⟨y,H2,I2,r2,q2⟩=> ?_;exact U v u s2 x y H2 I2 r1 r2 q2
theorem qZ {O:Operator}{r:R2}(U:OpR X (binaryOp O) r)(ha:PE X a ta)(hb:PE X b tb):PE X (.BinOp a O b pos) (tOp r ta tb):=by
 intro oq s σ H Q I h;exact wpAny_BinOp (binT ha hb I h λv u s2 x y H2 I2 rx ry q=>U oq s2 σ H2 x y v u Q I2 rx ry q)
theorem pe_un {O:UnaryOp}{r:V->Hp->VK->Prop}(U:UnR X (unaryOp O) r)(ha:PE X a ta):PE X (.UnaryOp O a pos) (tUn r ta):=by
 intro oq s σ H Q I h;exact UnaryOp_ (thn (ha oq s σ H _ I h) λv s1 ⟨x,H1,I1,r1,q1⟩=>U oq s1 σ H1 x v Q I1 r1 q1)
theorem opI {f:o6->o6->Sem o6}{C:Int->Int->Prop}{g:Int->Int->Int}
  (rule:∀(i j:Int) (t u:Tok) (s:o7) (Q:o6->o7->Prop) (E:o6->o7->Prop),C i j->Q (.int (g i j) s.toks) {s with toks:=s.toks+1}->wpAny (model X.prog X.w) X.A (f (.int i t) (.int j u)) Q E s):
  OpR X f (rI C λi j=> .int (g i j)):=by
 intro oq s σ H x y v u Q I O U h;obtain⟨i,j,rfl,rfl,hc,q⟩:=h;obtain⟨t,rfl⟩:=O;obtain⟨t',rfl⟩:=U;exact rule i j t t' s _ _ hc ⟨.int (g i j),H,I.tok _,⟨0⟩,q⟩
theorem opI0 {f:o6->o6->Sem o6}{g:Int->Int->Int}
  (rule:∀(i j:Int) (t u:Tok) (s:o7) (Q:o6->o7->Prop) (E:o6->o7->Prop),Q (.int (g i j) s.toks) {s with toks:=s.toks+1}->wpAny (model X.prog X.w) X.A (f (.int i t) (.int j u)) Q E s):
  OpR X f (rI0 λi j=> .int (g i j)):=by
 intro oq s σ H x y v u Q I O U h;obtain⟨i,j,rfl,rfl,q⟩:=h;obtain⟨t,rfl⟩:=O;obtain⟨t',rfl⟩:=U;exact rule i j t t' s _ _ ⟨.int (g i j),H,I.tok _,⟨0⟩,q⟩
theorem opB0 {f:o6->o6->Sem o6}{g:Int->Int->Bool}
  (rule:∀(i j:Int) (t u:Tok) (s:o7) (Q:o6->o7->Prop) (E:o6->o7->Prop),Q (.bool (g i j)) s->wpAny (model X.prog X.w) X.A (f (.int i t) (.int j u)) Q E s):
  OpR X f (rI0 λi j=> .bl (g i j)):=by
 intro oq s σ H x y v u Q I O U h;obtain⟨i,j,rfl,rfl,q⟩:=h;obtain⟨t,rfl⟩:=O;obtain⟨t',rfl⟩:=U;exact rule i j t t' s _ _ ⟨.bl (g i j),H,I,1,q⟩
def CDiv (i j:Int):Prop:=0<j/\j<1073741824
def CPow (i j:Int):Prop:=0<=j/\j<=1000000/\i.natAbs<2^64
def CMul (i j:Int):Prop:=(-(2^64)<i/\i<2^64)∨(-(2^64)<j/\j<2^64)
theorem CMul.ok {i j:Int}(h:CMul i j):IntMulOk i j:=by
 rcases h with⟨h1,h2⟩|⟨h1,h2⟩
 ·exact .of_left (intBits_le_64 h1 h2)
 ·exact .of_right (intBits_le_64 h1 h2)
theorem yR:OpR X (binaryOp .Add) (rI0 λi j=> .int (i+j)):=opI0 λ_ _ _ _ _ _ _ q=>add_int q
theorem op_sub:OpR X (binaryOp .Sub) (rI0 λi j=> .int (i-j)):=opI0 λ_ _ _ _ _ _ _ q=>sub_int q
theorem op_mul:OpR X (binaryOp .Mult) (rI CMul λi j=> .int (i*j)):=opI λ_ _ _ _ _ _ _ O q=>mul_int q O.ok
theorem op_fdiv:OpR X (binaryOp .FloorDiv) (rI CDiv λi j=> .int (i/j)):=opI λi j _ _ _ _ _ O q=>by
 have h1:(0:Int)<j:=O.1;have h2:j<1073741824:=O.2;exact floordiv_int (by omega) (by rw [Int.fdiv_eq_ediv_of_nonneg i (by omega)];exact q) (.inl (PyProof.noPylong_small (by omega)))
theorem wm:OpR X (binaryOp .Mod) (rI (λ_ j=>0<j) λi j=> .int (i%j)):=opI λi j _ _ _ _ _ O q=>by
 have h1:(0:Int)<j:=O;exact mod_int' (by omega) (by rw [Int.fmod_eq_emod_of_nonneg i (by omega)];exact q)
theorem op_pow:OpR X (binaryOp .Pow) (rI CPow λi j=> .int (i^j.toNat)):=opI λ_ _ _ _ _ _ _ O q=>pow_int_small O.1 O.2.1 O.2.2 q
theorem unI {f:o6->Sem o6}{g:Int->Int}
  (rule:∀(i:Int) (t:Tok) (s:o7) (Q:o6->o7->Prop) (E:o6->o7->Prop),Q (.int (g i) s.toks) {s with toks:=s.toks+1}->wpAny (model X.prog X.w) X.A (f (.int i t)) Q E s):
  UnR X f (rU λi=> .int (g i)):=by
 intro oq s σ H x v Q I O h;obtain⟨i,rfl,q⟩:=h;obtain⟨t,rfl⟩:=O;exact rule i t s _ _ ⟨.int (g i),H,I.tok _,⟨0⟩,q⟩
theorem un_neg:UnR X (unaryOp .USub) (rU λi=> .int (-i)):=unI λ_ _ _ _ _ q=>neg_int q
noncomputable def scal:V->V->Bool
 | .non,.non=>true| .non,.int _=>true| .int _,.non=>true| .non,.bl _=>true| .bl _,.non=>true| .non,.str _=>true| .str _,.non=>true
 | .int _,.int _=>true| .bl _,.bl _=>true| .str _,.str _=>true| .byt _,.byt _=>true
 | .int _,.str _=>true| .str _,.int _=>true| .bl _,.str _=>true| .str _,.bl _=>true
 |_,_=>false
def rEq:R2:=λx y H Q=>scal x y=true/\Q (.bl (decide (x=y))) H
def rNe:R2:=λx y H Q=>scal x y=true/\Q (.bl (!decide (x=y))) H
theorem dec_int {i j:Int}:decide (V.int i=V.int j)=(i==j):=by
 rw [vx];simp
theorem dec_bl {i j:Bool}:decide (V.bl i=V.bl j)=(i==j):=by
 rw [vx];simp
theorem dec_str {i j:Str}:decide (V.str i=V.str j)=(i==j):=by
 rw [vx];simp
theorem dec_byt {i j:Array UInt8}:decide (V.byt i=V.byt j)=(i.toList==j.toList):=by
 rw [vx];cases i;cases j;simp
theorem Qb {oq:oj (o3×Obj)}{σ:St}{H:Hp}{s:o7}{Q:VK}{k O:Bool}(I:Inv X oq σ H s)(q:Q (.bl k) H)(e:k=O):EP X oq σ Q (.bool O) s:=by
 subst e;exact⟨.bl k,H,I,1,q⟩
theorem QM:OpR X (compareOp .Eq) rEq:=by
 intro oq s σ H x y v u Q I rx O h;obtain⟨U,q⟩:=h;cases x with
 |non=>
  cases rx;cases y with
  |non=>cases O;exact PySem.EqNone.eq_none_none (Qb I q (by simp))
  |bl j=>cases O;exact PySem.EqNone.eq_none_bool (Qb I q (by simp))
  |int j=>obtain⟨t',rfl⟩:=O;exact PySem.EqNone.eq_none_int (Qb I q (by simp))
  |str j=>obtain⟨t',rfl⟩:=O;exact PySem.EqNone.eq_none_str (Qb I q (by simp))
  |_=>exact absurd (show false=true from U) u8
 |bl i=>
  cases rx;cases y with
  |non=>cases O;exact PySem.EqNone.eq_bool_none (Qb I q (by simp))
  |bl j=>cases O;exact eq_bool (Qb I q dec_bl)
  |str j=>obtain⟨t',rfl⟩:=O;exact PySem.EqMixed.eq_bool_str (Qb I q (by simp))
  |_=>exact absurd (show false=true from U) u8
 |int i=>
  obtain⟨t,rfl⟩:=rx;cases y with
  |non=>cases O;exact PySem.EqNone.eq_int_none (Qb I q (by simp))
  |int j=>obtain⟨t',rfl⟩:=O;exact eq_int (Qb I q dec_int)
  |str j=>obtain⟨t',rfl⟩:=O;exact PySem.EqMixed.eq_int_str (Qb I q (by simp))
  |_=>exact absurd (show false=true from U) u8
 |str i=>
  obtain⟨t,rfl⟩:=rx;cases y with
  |non=>cases O;exact PySem.EqNone.eq_str_none (Qb I q (by simp))
  |bl j=>cases O;exact PySem.EqMixed.eq_str_bool (Qb I q (by simp))
  |int j=>obtain⟨t',rfl⟩:=O;exact PySem.EqMixed.eq_str_int (Qb I q (by simp))
  |str j=>obtain⟨t',rfl⟩:=O;exact eq_str (Qb I q dec_str)
  |_=>exact absurd (show false=true from U) u8
 |byt i=>
  obtain⟨t,rfl⟩:=rx;cases y with
  |byt j=>obtain⟨t',rfl⟩:=O;exact PySem.W.eq_bytes (Qb I q dec_byt)
  |_=>exact absurd (show false=true from U) u8
 |_=>cases y<;>exact absurd (show false=true from U) u8
theorem op_ne:OpR X (compareOp .NotEq) rNe:=by
 intro oq s σ H x y v u Q I rx O h;obtain⟨U,q⟩:=h;cases x with
 |non=>
  cases rx;cases y with
  |non=>cases O;exact PySem.EqNone.ne_none_none (Qb I q (by simp))
  |bl j=>cases O;exact PySem.EqNone.ne_none_bool (Qb I q (by simp))
  |int j=>obtain⟨t',rfl⟩:=O;exact PySem.EqNone.ne_none_int (Qb I q (by simp))
  |str j=>obtain⟨t',rfl⟩:=O;exact PySem.EqNone.ne_none_str (Qb I q (by simp))
  |_=>exact absurd (show false=true from U) u8
 |bl i=>
  cases rx;cases y with
  |non=>cases O;exact PySem.EqNone.ne_bool_none (Qb I q (by simp))
  |bl j=>cases O;exact ne_bool (Qb I q (congrArg not dec_bl))
  |str j=>obtain⟨t',rfl⟩:=O;exact PySem.EqMixed.ne_bool_str (Qb I q (by simp))
  |_=>exact absurd (show false=true from U) u8
 |int i=>
  obtain⟨t,rfl⟩:=rx;cases y with
  |non=>cases O;exact PySem.EqNone.ne_int_none (Qb I q (by simp))
  |int j=>obtain⟨t',rfl⟩:=O;exact ne_int (Qb I q (congrArg not dec_int))
  |str j=>obtain⟨t',rfl⟩:=O;exact PySem.EqMixed.ne_int_str (Qb I q (by simp))
  |_=>exact absurd (show false=true from U) u8
 |str i=>
  obtain⟨t,rfl⟩:=rx;cases y with
  |non=>cases O;exact PySem.EqNone.ne_str_none (Qb I q (by simp))
  |bl j=>cases O;exact PySem.EqMixed.ne_str_bool (Qb I q (by simp))
  |int j=>obtain⟨t',rfl⟩:=O;exact PySem.EqMixed.ne_str_int (Qb I q (by simp))
  |str j=>obtain⟨t',rfl⟩:=O;exact ne_str (Qb I q (congrArg not dec_str))
  |_=>exact absurd (show false=true from U) u8
 |byt i=>
  obtain⟨t,rfl⟩:=rx;cases y with
  |byt j=>obtain⟨t',rfl⟩:=O;exact PySem.W.ne_bytes (Qb I q (congrArg not dec_byt))
  |_=>exact absurd (show false=true from U) u8
 |_=>cases y<;>exact absurd (show false=true from U) u8
theorem op_lt:OpR X (compareOp .Lt) (rI0 λi j=> .bl (decide (i<j))):=opB0 λ_ _ _ _ _ _ _ q=>lt_int q
theorem op_le:OpR X (compareOp .LtE) (rI0 λi j=> .bl (decide (i<=j))):=opB0 λ_ _ _ _ _ _ _ q=>le_int q
theorem op_gt:OpR X (compareOp .Gt) (rI0 λi j=> .bl (decide (j<i))):=opB0 λ_ _ _ _ _ _ _ q=>gt_int q
theorem op_ge:OpR X (compareOp .GtE) (rI0 λi j=> .bl (decide (j<=i))):=opB0 λ_ _ _ _ _ _ _ q=>ge_int q
theorem op_lt_str:OpR X (compareOp .Lt) (λx y H Q=>∃i j,x= .str i/\y= .str j/\Q (.bl (decide (i.cps.toList<j.cps.toList))) H):=by
 intro oq s σ H x y v u Q I O U h;obtain⟨i,j,rfl,rfl,q⟩:=h;obtain⟨t,rfl⟩:=O;obtain⟨t',rfl⟩:=U;exact lt_str (Qb I q rfl)
theorem op_in_str:OpR X (compareOp .In) (λx y H Q=>∃i j,x= .str i/\y= .str j/\Q (.bl (!(Builtin.Str.occurrences j i 0 j.length 1).isEmpty)) H):=by
 intro oq s σ H x y v u Q I O U h;obtain⟨i,j,rfl,rfl,q⟩:=h;obtain⟨t,rfl⟩:=O;obtain⟨t',rfl⟩:=U;exact in_str (Qb I q rfl)
theorem yT:OpR X (compareOp .Is) (λx y H Q=>y= .non/\Q (.bl (decide (x= .non))) H):=by
 intro oq s σ H x y v u Q I O U h;obtain⟨rfl,q⟩:=h;cases U;refine is_none_gen (Qb I q ?_);cases x<;>first
  |(cases O;rfl)
  |(obtain⟨t,rfl⟩:=O;rfl)
theorem op_notN:OpR X (compareOp .IsNot) (λx y H Q=>y= .non/\Q (.bl (!decide (x= .non))) H):=by
 intro oq s σ H x y v u Q I O U h;obtain⟨rfl,q⟩:=h;cases U;refine isnot_none_gen (Qb I q ?_);cases x<;>first
  |(cases O;rfl)
  |(obtain⟨t,rfl⟩:=O;rfl)
theorem qz (b:Expr){O:CmpOp}(h:O≠ .In:=by decide)(h2:O≠ .NotIn:=by decide):behindInMarks O b=false:=by
 have U:(O==CmpOp.In)=false:=by cases O<;>first|rfl|exact absurd rfl h
 have e2:(O==CmpOp.NotIn)=false:=by cases O<;>first|rfl|exact absurd rfl h2
 cases b<;>simp [behindInMarks,U,e2]
theorem yo {O:CmpOp}{r:R2}(U:OpR X (compareOp O) r)(ha:PE X a ta)(hb:PE X b tb)(hm:behindInMarks O b=false):PE X (.Compare a [O] [b] pos) (tOp r ta tb):=by
 intro oq s σ H Q I h;exact wpAny_Compare1 (binT ha hb I h λv u s2 x y H2 I2 rx ry q=>U oq s2 σ H2 x y v u Q I2 rx ry q) hm
def tTest (t:TE):TT:=λσ H Q=>t σ H λx H'=>∃k,x= .bl k/\Q k H'
theorem qr {O:CmpOp}{r:R2}(U:OpR X (compareOp O) r)(ha:PE X a ta)(hb:PE X b tb)(hm:behindInMarks O b=false):PT X (.Compare a [O] [b] pos) (tTest (tOp r ta tb)):=by
 intro oq s σ H Q I h;refine wpAny_isTrue_Compare1 (thn (ha oq s σ H _ I h) λv s1 ⟨x,H1,I1,r1,q1⟩=>thn (hb oq s1 σ H1 _ I1 q1) λu s2 ⟨y,H2,I2,r2,q2⟩=>
  thn (U oq s2 σ H2 x y v u _ I2 r1 r2 q2) λc s3 ⟨z,H3,I3,r3,k,e,q3⟩=> ?_) hm
 subst e;cases r3;exact vc ⟨H3,I3,q3⟩
def tChain (r r':R2)(ta tb tc:TE):TE:=λσ H Q=>ta σ H λx H1=>tb σ H1 λy H2=>r x y H2 λz H3=>∃k,z= .bl k/\
 (if k=true then tc σ H3 λw' H4=>r' y w' H4 Q else Q (.bl false) H3)
theorem pt_chain {U O:CmpOp}{r r':R2}(ho:OpR X (compareOp U) r)(aa:OpR X (compareOp O) r')(ha:PE X a ta)(hb:PE X b tb)(hc:PE X c tc)
  (hm:lastMarks [U,O] [b,c]=false):PT X (.Compare a [U,O] [b,c] pos) (tTest (tChain r r' ta tb tc)):=by
 intro oq s σ H Q I h;refine isTrue_chain (thn (ha oq s σ H _ I h) λv s1 ⟨x,H1,I1,r1,q1⟩=>test_link (thn (hb oq s1 σ H1 _ I1 q1) λu s2 ⟨y,H2,I2,r2,q2⟩=>
  thn (ho oq s2 σ H2 x y v u _ I2 r1 r2 q2) λd s3 ⟨z,H3,I3,r3,k,e,q3⟩=> ?_)) hm
 subst e;cases r3;refine vc ?_;cases k with
 |false=>
  obtain⟨k',e',q'⟩:=q3;cases e';exact ite_ff ⟨H3,I3,q'⟩
 |true=>
  refine ite_tt (test_last (thn (hc oq s3 σ H3 _ I3 q3) λw' s4 ⟨z',H4,I4,r4,q4⟩=>thn (aa oq s4 σ H4 y z' u w' _ I4 r2 r4 q4) λd' s5 ⟨z2,H5,I5,r5,k2,e2,q5⟩=> ?_));subst e2;cases r5;exact vc ⟨H5,I5,q5⟩
def TruV (K:o0)(x:V)(H:Hp)(k:Bool):Prop:=
 match x with
 | .non=>k=false
 | .bl b=>k=b
 | .int i=>k=(i !=0)
 | .str y=>y.length<=sizeLine/\k=((y.length:Int) !=0)
 | .byt y=>y.size<=sizeLine/\k=((y.size:Int) !=0)
 | .ref p=>(∃xs,SqL K H p xs/\k= !xs.isEmpty)∨(∃xs,SqT K H p xs/\k= !xs.isEmpty)∨∃kvs,H p=some (.dK kvs)/\k= !kvs.isEmpty
 |_=>False
theorem isEmpty_kv {κ:Type}{kvs:oj (κ×V)}{vs:oj (κ×o6)}(r:KV kvs vs):(!vs.isEmpty)= !kvs.isEmpty:=by
 cases r<;>rfl
theorem wB {xs:oj V}{its:oj o6}(r:Vals xs its):(!its.toArray.isEmpty)= !xs.isEmpty:=by
 cases r<;>simp
theorem XV:(sizeLine:Nat)<2^63:=by rw [uA];decide
theorem tru_ok:TruR X (λx H Q=>∃k,TruV X.K x H k/\Q k H):=by
 intro oq s σ H x v Q I rx h;obtain⟨k,e,q⟩:=h;have hl:=XV;have hs:sizeLine=16777216:=uA;cases x with
 |non=>
  cases rx;have O:k=false:=e;subst O;exact truthy_none ⟨H,I,q⟩
 |bl b=>
  cases rx;have O:k=b:=e;subst O;exact vc ⟨H,I,q⟩
 |int i=>
  obtain⟨t,rfl⟩:=rx;have O:k=(i !=0):=e;subst O;exact PySem.P.truthy_int ⟨H,I,q⟩
 |str y=>
  obtain⟨t,rfl⟩:=rx;obtain⟨hy,O⟩:y.length<=sizeLine/\k=((y.length:Int) !=0):=e;subst O;exact PySem.P.truthy_str (by omega) ⟨H,I.tok _,q⟩
 |byt y=>
  obtain⟨t,rfl⟩:=rx;obtain⟨hy,O⟩:y.size<=sizeLine/\k=((y.size:Int) !=0):=e;subst O;exact PySem.W.truthy_bytes (by omega) ⟨H,I.tok _,q⟩
 |ref p=>
  cases rx;have O:(∃xs,SqL X.K H p xs/\k= !xs.isEmpty)∨(∃xs,SqT X.K H p xs/\k= !xs.isEmpty)∨∃kvs,H p=some (.dK kvs)/\k= !kvs.isEmpty:=e;rcases O with⟨xs,hx,O⟩|⟨xs,hx,O⟩|⟨kvs,hx,O⟩
  ·subst O;obtain⟨its,r,pl,hz⟩:=I.list hx;have U:=r.length;exact wpAny_truthy_list pl.isList (by simp only [uj];omega) ⟨H,I.tok _,by rw [wB r];exact q⟩
  ·subst O;obtain⟨its,r,pl,hz⟩:=I.tuple hx;have U:=r.length;exact truthy_tuple pl (by simp only [uj];omega) ⟨H,I.tok _,by rw [wB r];exact q⟩
  ·subst O;obtain⟨hz,hS,vs,r,m⟩:kvs.length<=sizeLine/\(p==sysModules)=false/\∃vs,KV kvs vs/\s.heap.DictOf (Qd X.prog X.w) p vs:=I.hok p _ hx;have U:kvs.length=vs.length:=Paired.length r;exact wpAny_truthy_dict hS m (by omega) ⟨H,I.tok _,by rw [isEmpty_kv r];exact q⟩
 |_=>exact(show False from e).elim
theorem pt_truth (ha:PE X a ta)(U:∀O,isTrue a X.env O=(do let v<-O;standAt a.pos;holding [v] (truthy v))):
  PT X a (λσ H Q=>ta σ H λx H'=>∃k,TruV X.K x H' k/\Q k H'):=by
 intro oq s σ H Q I h;exact isTrue_plain (thn (ha oq s σ H _ I h) λv s1 ⟨x,H1,I1,r1,q1⟩=>tru_ok oq s1 σ H1 x v Q I1 r1 q1) (U _)
theorem Qj:OpR X (binaryOp .Add) (λx y H Q=>∃i j,x= .str i/\y= .str j/\i.length+j.length<=sizeLine/\Q (.str (i++j)) H):=by
 intro oq s σ H x y v u Q I O U h;obtain⟨i,j,rfl,rfl,hz,q⟩:=h;obtain⟨t,rfl⟩:=O;obtain⟨t',rfl⟩:=U;exact uN (n:=1) I.tk (add_str (λt' tk htk=>⟨.str (i++j),H,I.tok _,⟨0⟩,q⟩) hz)
theorem JZ {x:V}{us:oj o6}(r:Vals [x] us):∃u,us= [u]/\RelV x u:=by
 cases r with
 |cons O U=>cases U;exact⟨0,O⟩
theorem vals2 {x y:V}{us:oj o6}(r:Vals [x,y] us):∃u O,us= [u,O]/\RelV x u/\RelV y O:=by
 cases r with
 |cons U r2=>
  cases r2 with
  |cons r3 r4=>cases r4;exact⟨_,0,U,r3⟩
theorem call_abs:y6 X (.builtin "abs") (λxs H Q=>∃i,xs= [.int i]/\Q (.int (if i<0 then-i else i)) H):=by
 intro oq s σ H xs us Q I r h;obtain⟨i,rfl,q⟩:=h;obtain⟨u,rfl,t,rfl⟩:=JZ r;exact uN (n:=1) I.tk (call_abs_int λu tk htk=>⟨.int (if i<0 then-i else i),H,I.tok _,⟨0⟩,q⟩)
theorem call_min2 (U:X.calm=true):y6 X (.builtin "min") (λxs H Q=>∃i j,xs= [.int i,.int j]/\Q (.int (if j<i then j else i)) H):=by
 intro oq s σ H xs us Q I r h;obtain⟨i,j,rfl,q⟩:=h;obtain⟨u,w',rfl,⟨t,rfl⟩,⟨t',rfl⟩⟩:=vals2 r;refine uN (n:=1) I.tk (min_two_ints (I.ok.hd U) λh' tk k htk=>⟨_,H,I.kept k,?_,q⟩);by_cases O:j<i
 ·rw [if_pos O,if_pos O];exact⟨0⟩
 ·rw [if_neg O,if_neg O];exact⟨0⟩
theorem jC:y6 X (.type "str") (λxs H Q=>∃i,xs= [.int i]/\i.natAbs.log2<1920/\Q (.str (toString i)) H):=by
 intro oq s σ H xs us Q I r h;obtain⟨i,rfl,O,q⟩:=h;obtain⟨u,rfl,t,rfl⟩:=JZ r;exact PySem.P.str_of_int O ⟨.str _,H,I.tok _,⟨0⟩,q⟩
theorem call_ord:y6 X (.builtin "ord") (λxs H Q=>∃x,xs= [.str x]/\x.length=1/\Q (.int (x.cps.getD 0 0:Nat)) H):=by
 intro oq s σ H xs us Q I r h;obtain⟨x,rfl,O,q⟩:=h;obtain⟨u,rfl,t,rfl⟩:=JZ r;exact ord_of_one O ⟨.int _,H,I.tok _,⟨0⟩,q⟩
def LenV (K:o0)(x:V)(H:Hp)(n:Nat):Prop:=
 match x with
 | .str y=>y.length<=sizeLine/\n=y.length
 | .byt y=>y.size<=sizeLine/\n=y.size
 | .ref p=>(∃xs,SqL K H p xs/\n=xs.length)∨∃xs,SqT K H p xs/\n=xs.length
 |_=>False
theorem W5:y6 X (.builtin "len") (λxs H Q=>∃x n,xs= [x]/\LenV X.K x H n/\Q (.int n) H):=by
 intro oq s σ H xs us Q I r h;obtain⟨x,n,rfl,e,q⟩:=h;obtain⟨u,rfl,rx⟩:=JZ r;have hl:=XV;have hs:sizeLine=16777216:=uA;cases x with
 |str y=>
  obtain⟨t,rfl⟩:=rx;obtain⟨hy,U⟩:y.length<=sizeLine/\n=y.length:=e;subst U;exact len_str (by omega) ⟨.int _,H,I.tok _,⟨0⟩,q⟩
 |byt y=>
  obtain⟨t,rfl⟩:=rx;obtain⟨hy,U⟩:y.size<=sizeLine/\n=y.size:=e;subst U;exact PySem.W.len_bytes (by omega) ⟨.int _,H,I.tok _,⟨0⟩,q⟩
 |ref p=>
  cases rx;have U:(∃xs,SqL X.K H p xs/\n=xs.length)∨∃xs,SqT X.K H p xs/\n=xs.length:=e;rcases U with⟨xs,hx,U⟩|⟨xs,hx,U⟩
  ·subst U;obtain⟨its,r',pl,hz⟩:=I.list hx;have O:=r'.length;exact Calls.call_len_list pl.isList (by simp only [uj];omega) ⟨.int xs.length,H,I.tok _,⟨_,by simp only [uj];rw [O]⟩,q⟩
  ·subst U;obtain⟨its,r',pl,hz⟩:=I.tuple hx;have O:=r'.length;exact len_tuple pl (by simp only [uj];omega) ⟨.int xs.length,H,I.tok _,⟨_,by simp only [uj];rw [O]⟩,q⟩
 |_=>exact(show False from e).elim
end
structure ObjM (h:o8)(x dx C:o3)(mA:Str->om o6):Prop where
 obj:h.get? x=some (PySem.W.instObj C dx)
 ns:h.Ns1 dx mA
 ne:dx≠x
theorem lookIn_ns {h:o8}{dx:o3}{mA:Str->om o6}(n:h.Ns1 dx mA):∃od,h.get? dx=some od/\∀name,PySem.W.lookIn name od=some (mA name):=by
 obtain⟨o,es,ep,U,hd,hk,_,hm⟩:=n;refine⟨o,U,λname=> ?_⟩;have e:=hm name;unfold nsFind findBy at e;rw [<-Array.find?_toList] at e;unfold PySem.W.lookIn;rw [hd];dsimp only;split
 ·rename_i y q
  rw [q] at e;exact congrArg some e
 ·rename_i q
  rw [q] at e;have a:es.toList.any (·.refKey)=false:=by
   rw [List.any_eq_false];intro y hy;obtain⟨z,t,O⟩:=hk y (Array.mem_toList_iff.mp hy);simp [DictEntry.refKey,O]
  have a':¬es.toList.any (·.refKey)=true:=by rw [a];exact u8
  rw [if_neg a'];exact congrArg some e
theorem ObjM.look {h:o8}{x dx C:o3}{mA:Str->om o6}(I:ObjM h x dx C mA):∃od,PySem.W.InstAt h x (PySem.W.instObj C dx) C (some od)/\∀name,PySem.W.lookIn name od=some (mA name):=
 let⟨od,ho,hl⟩:=lookIn_ns I.ns
 ⟨od,⟨I.obj,1,1,ho⟩,hl⟩
section
variable {prog:o9}{w:og}{A:oh}{E:o6->o7->Prop}{s:o7}{K:o0}{x dx C f:o3}{mA:Str->om o6}{name:Str}{v:o6}
theorem get_map {O:Bool}{Q:o6->o7->Prop}(X:K.In s.heap)(I:ObjM s.heap x dx C mA)(hg:PySem.W.plainGet K C name=true)(hh:PySem.W.hasDictIn K C=true)
  (ha:PySem.W.findIn K (.ref C) name=some none) (hv:mA name=some v) (U:PySem.W.handedIn v=true) (h:Q v {s with toks:=s.toks+1}):
  wpAny (model prog w) A (getAttr (.ref x) name O) Q E s:=by
 obtain⟨od,J,hl⟩:=I.look;exact PySem.W.get_value X J (PySem.W.plainGet_of hg).1 (PySem.W.findObj_own hh ha rfl (by rw [hl,hv])) U h
theorem get_meth {pl:Sem Bool}{Q:o6×oj o6->o7->Prop}(X:K.In s.heap)(I:ObjM s.heap x dx C mA)(O:PySem.W.plainGet K C name=true)
  (U:PySem.W.findIn K (.ref C) name=some (some (.ref f))) (ht:PySem.W.isFn K (.ref f)=true) (hv:mA name=none) (h:Q (.ref f,[.ref x]) s):
  wpAny (model prog w) A (getMethod (.ref x) name pl) Q E s:=by
 obtain⟨od,J,hl⟩:=I.look;exact PySem.W.method_fn X J (PySem.W.plainGet_of O).1 (PySem.W.plainGet_of O).2 U (beq_iff_eq.mp ht) (by show(PySem.W.lookIn name od).map (·.isSome)=some false;rw [hl,hv];rfl) h
theorem set_map {ns:oj Str}{Q:Unit->o7->Prop}(X:K.In s.heap)(I:ObjM s.heap x dx C mA)
  (hs:PySem.W.findIn K (.ref C) "__setattr__"=some (some (.builtin "object.__setattr__"))) (hp:PySem.W.plainOver K C=true) (ht:PySem.W.takerIn K C name=some none) (hh:PySem.W.hasDictIn K C=true)
  (hw:PySem.Within mA ns) (hsz:ns.length<=sizeLine)
  (h:∀h',ObjM h' x dx C (λy=>if y=name then some v else mA y)->Heap.SameBut dx s.heap h'->Q Unit.unit {s with heap:=h',toks:=s.toks+2}):
  wpAny (model prog w) A (setAttr (.ref x) name v) Q E s:=by
 obtain⟨od,J,hl⟩:=I.look;refine PySem.W.set_plain X J hs (PySem.W.osa_open (s:={s with toks:=s.toks+1}) (r:=none) X J hp ht λb=> ?_)
 obtain⟨cd,hc,aa⟩:=PySem.W.any_some hh;have hx:s.heap.get? x=some ⟨.ref C,some dx,.plain,#[]⟩:=I.obj;refine wpAny_bind (um (wpAny_bind (wpAny_bind (wpAny_loadPart hx (wpAny_bind (PySem.W.Looks.here (s:={s with toks:=s.toks+1}) (PySem.W.looks_clsIn X hc) ?_))))))
 rw [aa];refine um (a:=some dx) (wpAny_bind (um (wpAny_bind ?_)));refine wpAny_nsSet1 (s:={s with toks:=s.toks+1}) I.ns λh' O U=> ?_
 obtain⟨oD,af,ag,ac,ad,ae⟩:=O.count (PySem.Within.cons name v hw);refine wpAny_bind (wpAny_lookBehind ac (by rw [ad];exact pastItsLine_dict (uQ ae (by rw [ui];omega))) ?_)
 exact um (h _ ⟨(U.2 _ (U0 I.ne)).trans I.obj,O,I.ne⟩ U)
theorem make_map {R:Result->o7->Prop}{vs:oj o6}{O:oj (Str×o6)}(X:K.In s.heap)(hm:PySem.W.makesIn K C=true)
  (hi:PySem.W.findIn K (.ref C) "__init__"=some (some (.ref f))) (U:PySem.W.typeIn K (.ref f)=some (.type "function"))
  (h:codeAny (model prog w) (A.under (.builtin "type.__call__" ⟨.ref C::vs,O⟩)) (.call (.ref f) ⟨.ref (s.heap.objs.size+1)::vs,O⟩) (PySem.W.InitBack (s.heap.objs.size+1) R)
   {s with heap:=(s.heap.push PySem.W.emptyDict).push (PySem.W.instObj C s.heap.objs.size)}):
  codeAny (model prog w) A (.call (.ref C) ⟨vs,O⟩) R s:=by
 obtain⟨hh,g,d,t,os⟩:=s;exact PySem.W.make_core (PySem.W.makes_of X hm) (PySem.W.looks_findIn X hi) (λself=>PySem.W.bind_fn X self U) (.inl rfl) h
end
noncomputable def putF (f:Str)(v:V):oj (Str×V)->oj (Str×V)
 | []=> [(f,v)]
 |(g,x)::r=>if g=f then(g,v)::r else(g,x)::putF f v r
theorem qA (f g:Str)(v:V):∀fs:oj (Str×V),(putF f v fs).lookup g=if g=f then some v else fs.lookup g
 | []=>by
  show List.lookup g [(f,v)]=_;by_cases h:g=f
  ·have O:(g==f)=true:=beq_iff_eq.mpr h;simp only [List.lookup,O,if_pos h]
  ·have O:(g==f)=false:=beq_eq_false_iff_ne.mpr h;simp only [List.lookup,O,if_neg h]
 |(k,x)::r=>by
  have ih:=qA f g v r;rw [show putF f v ((k,x)::r)=(if k=f then(k,v)::r else(k,x)::putF f v r) from rfl]
  by_cases U:k=f
  ·rw [if_pos U];by_cases h:g=k
   ·have O:(g==k)=true:=beq_iff_eq.mpr h;simp only [List.lookup,O,if_pos (h.trans U)]
   ·have O:(g==k)=false:=beq_eq_false_iff_ne.mpr h;simp only [List.lookup,O,if_neg (λe:g=f=>h (e.trans U.symm))]
  ·rw [if_neg U];by_cases h:g=k
   ·have O:(g==k)=true:=beq_iff_eq.mpr h;simp only [List.lookup,O,if_neg (λe:g=f=>U (h.symm.trans e))]
   ·have O:(g==k)=false:=beq_eq_false_iff_ne.mpr h;simp only [List.lookup,O];exact ih
theorem zD (f:Str)(v:V):∀fs:oj (Str×V),f∈(putF f v fs).map (·.1)/\∀g,g∈fs.map (·.1)->g∈(putF f v fs).map (·.1)
 | []=>⟨by simp [putF],λg h=>by simp at h⟩
 |(k,x)::r=>by
  obtain⟨U,i2⟩:=zD f v r;rw [show putF f v ((k,x)::r)=(if k=f then(k,v)::r else(k,x)::putF f v r) from rfl]
  by_cases O:k=f
  ·rw [if_pos O];subst O;exact⟨by simp,λg h=>by simpa using h⟩
  ·rw [if_neg O];refine⟨?_,λg h=> ?_⟩
   ·rw [uq];exact ub _ U
   ·rw [uq] at h⊢;rcases List.mem_cons.mp h with e|e
    ·exact List.mem_cons.mpr (.inl e)
    ·exact ub _ (i2 g e)
theorem zY (f:Str)(v:V):∀fs:oj (Str×V),(putF f v fs).length<=fs.length+1
 | []=>by simp [putF]
 |(k,x)::r=>by
  have U:=zY f v r;rw [show putF f v ((k,x)::r)=(if k=f then(k,v)::r else(k,x)::putF f v r) from rfl]
  by_cases O:k=f
  ·rw [if_pos O,ui,ui];omega
  ·rw [if_neg O,ui,ui];omega
theorem RelO.some_of {v:V}{o:om o6}(r:RelO (some v) o):∃u,o=some u/\RelV v u:=by
 cases o with
 |none=>exact(show False from r).elim
 |some u=>exact⟨u,1,r⟩
theorem RelO.none_of {o:om o6}(r:RelO none o):o=none:=by
 cases o with
 |none=>rfl
 |some u=>exact(show False from r).elim
theorem handed_of {v:V}{u:o6}(r:RelV v u):PySem.W.handedIn u=true:=by
 cases v with
 |non=>cases(show u=Value.none from r);rfl
 |bl b=>cases(show u=Value.bool b from r);rfl
 |int i=>obtain⟨t,e⟩:=(show∃t,u=Value.int i t from r);cases e;rfl
 |str x=>obtain⟨t,e⟩:=(show∃t,u=Value.str x t from r);cases e;rfl
 |byt b=>obtain⟨t,e⟩:=(show∃t,u=Value.bytes b t from r);cases e;rfl
 |flt b=>obtain⟨t,e⟩:=(show∃t,u=Value.float b t from r);cases e;rfl
 |ref a=>cases(show u=Value.ref a from r);rfl
 |ty n=>cases(show u=Value.type n from r);rfl
section
variable {P:o9}{w:og}{H H':Hp}{h h':o8}{a C dx:o3}{fs fs':oj (Str×V)}
theorem WT (hok:HOk P w H h)(e:H a=some (.ins C dx fs)):∃mA,ObjM h a dx C mA/\(∀f,RelO (fs.lookup f) (mA f))/\PySem.Within mA (fs.map (·.1))/\fs.length<=1000/\H dx=some (.own a):=by
 obtain⟨d,z,ne,ob,mA,n,r,q⟩:=(show QJ P w H h a (.ins C dx fs) from hok a _ e)
 exact⟨mA,⟨ob,n,ne⟩,r,q,z,d⟩
end
structure Cls (K:o0)(C:o3):Prop where
 pg:PySem.W.plainGet K C Str.empty=true
 hd:PySem.W.hasDictIn K C=true
 po:PySem.W.plainOver K C=true
 sa:PySem.W.findIn K (.ref C) "__setattr__"=some (some (.builtin "object.__setattr__"))
theorem Cls.get {K:o0}{C:o3}(c:Cls K C)(f:Str):PySem.W.plainGet K C f=true:=c.pg
def Qx (K:o0)(C:o3)(f:Str):Prop:=PySem.W.findIn K (.ref C) f=some none
theorem Qx.taker {K:o0}{C:o3}{f:Str}(n:Qx K C f):PySem.W.takerIn K C f=some none:=by
 unfold PySem.W.takerIn;rw [show PySem.W.findIn K (.ref C) f=some none from n]
 rfl
structure Meth (K:o0)(C:o3)(m:Str)(f:o3):Prop where
 at_:PySem.W.findIn K (.ref C) m=some (some (.ref f))
 fn:PySem.W.isFn K (.ref f)=true
 kp:PySem.W.keepIn K (.ref f)=true
section
variable {X:Cx}{oq:oj (o3×Obj)}{σ:St}{H:Hp}{s:o7}{a C dx:o3}{fs:oj (Str×V)}{f:Str}{v:V}{A:oh}{E:o6->o7->Prop}
theorem Wf {b:Bool}{Q:o6->o7->Prop}(I:Inv X oq σ H s)(e:H a=some (.ins C dx fs))(c:Cls X.K C)(n:Qx X.K C f)(l:fs.lookup f=some v)
  (h:∀u s',Inv X oq σ H s'->RelV v u->Q u s'):wpAny (model X.prog X.w) A (getAttr (.ref a) f b) Q E s:=by
 obtain⟨mA,O,r,_,_,_⟩:=WT I.hok e;obtain⟨u,U,ru⟩:=RelO.some_of (v:=v) (o:=mA f) (by rw [<-l];exact r f)
 exact get_map I.kIn O (c.get f) c.hd n U (handed_of ru) (h u _ (I.tok _) ru)
theorem wY {m:Str}{g:o3}{pl:Sem Bool}{Q:o6×oj o6->o7->Prop}(I:Inv X oq σ H s)(e:H a=some (.ins C dx fs))(c:Cls X.K C)(k:Meth X.K C m g)(l:fs.lookup m=none)
  (h:Q (.ref g,[.ref a]) s):wpAny (model X.prog X.w) A (getMethod (.ref a) m pl) Q E s:=by
 obtain⟨mA,O,r,_,_,_⟩:=WT I.hok e;have hn:mA m=none:=RelO.none_of (by rw [<-l];exact r m)
 exact get_meth I.kIn O (c.get m) k.at_ k.fn hn h
theorem wg {y:V}{u:o6}{Q:Unit->o7->Prop}(I:Inv X oq σ H s)(e:H a=some (.ins C dx fs))(c:Cls X.K C)(n:Qx X.K C f)(hl:fs.length<1000)(ry:RelV y u)
  (h:∀s',Inv X oq σ (upd H a (.ins C dx (putF f y fs))) s'->Q Unit.unit s'):wpAny (model X.prog X.w) A (setAttr (.ref a) f u) Q E s:=by
 obtain⟨mA,O,r,wi,_,ho⟩:=WT I.hok e;have hz:(fs.map (·.1)).length<=sizeLine:=by rw [u9,uA];omega
 refine set_map I.kIn O c.sa c.po n.taker c.hd wi hz λh' U sb=>h _ ?_;have hd:∃o,h'.get? dx=some o:=let⟨o,_,_,e',_⟩:=U.ns;⟨o,e'⟩;refine I.write (x:=a) (e:=dx) (by rw [e];exact True.intro) (.inr ho) (λb q hb z=>(sb.2 b hb).trans z) hd ?_
 refine⟨by rw [qh O.ne];exact ho,?_,O.ne,U.obj,_,U.ns,λg=> ?_,λg hg=> ?_⟩
 ·have:=zY f y fs;omega
 ·show RelO ((putF f y fs).lookup g) (if g=f then some u else mA g)
  rw [qA];by_cases q:g=f
  ·rw [if_pos q,if_pos q];exact ry
  ·rw [if_neg q,if_neg q];exact r g
 ·by_cases q:g=f
  ·rw [q];exact(zD f y fs).1
  ·refine(zD f y fs).2 g (wi g λz=>hg ?_);show(if g=f then some u else mA g)=none
   rw [if_neg q];exact z
theorem Inv.made (I:Inv X oq σ H s):Inv X oq σ (upd (upd H s.heap.objs.size (.own (s.heap.objs.size+1))) (s.heap.objs.size+1) (.ins C s.heap.objs.size []))
  {s with heap:=(s.heap.push PySem.W.emptyDict).push (PySem.W.instObj C s.heap.objs.size)}:=by
 have O:(s.heap.push PySem.W.emptyDict).get? s.heap.objs.size=some PySem.W.emptyDict:=uz s.heap rfl;have e2:((s.heap.push PySem.W.emptyDict).push (PySem.W.instObj C s.heap.objs.size)).get? (s.heap.objs.size+1)=some (PySem.W.instObj C s.heap.objs.size):=by
  have:=uz (s.heap.push PySem.W.emptyDict) (o:=PySem.W.instObj C s.heap.objs.size) rfl
  rwa [vh] at this
 have U:(s.heap.push PySem.W.emptyDict).Ns s.heap.objs.size (λ_=>none):=⟨PySem.W.emptyDict,#[],_,O,1,(λe he=>absurd he (by simp)),λ_=>rfl⟩
 have I1:=I.laid (a:=s.heap.objs.size) (o:= .own (s.heap.objs.size+1)) (h':=s.heap.push PySem.W.emptyDict) (t':=s.toks) (λb u q=>ua _ q) (ug _) ⟨_,O⟩;refine I1.laid (a:=s.heap.objs.size+1) (o:= .ins C s.heap.objs.size []) (t':=s.toks) (λb u q=>ua _ q) (Nat.le_of_eq (vh _ _)) ?_;have ne:s.heap.objs.size≠s.heap.objs.size+1:=uI (Nat.lt_succ_self _);refine⟨by rw [qh ne,qf],uW _,ne,e2,λ_=>none,(Heap.Ns1.of_empty U).at λo q=>ua _ q,λ_=>True.intro,λy hy=>absurd rfl hy⟩
theorem attr_of {prog:o9}{w:og}{env:Env}{e:Expr}{f:Str}{pos:Pos}{s:o7}{Q:o6->o7->Prop}(O:attributeBase e f env (eval e env)=eval e env)
  (h:wpAny (model prog w) A (eval e env) (λo U=>wpAny (model prog w) A (getAttr o f true) Q E U) E s):wpAny (model prog w) A (eval (.Attribute e f pos) env) Q E s:=
 Attribute_any_ h (by rw [arm_eval_Attribute,O])
end
def tFld (K:o0)(ta:TE)(f:Str):TE:=λσ H Q=>ta σ H λx H1=>∃a C dx fs v,x= .ref a/\H1 a=some (.ins C dx fs)/\Cls K C/\Qx K C f/\fs.lookup f=some v/\Q v H1
def sFld (K:o0)(ta tv:TE)(f:Str):TS:=λD σ H=>tv σ H λy H1=>ta σ H1 λx H2=>∃a C dx fs,x= .ref a/\H2 a=some (.ins C dx fs)/\Cls K C/\Qx K C f/\fs.length<1000/\
 D.nx σ (upd H2 a (.ins C dx (putF f y fs)))
def InOp (X:Cx)(op:Operator)(rd:V->V->Hp->VK->Prop):Prop:=
 ∀(oq:oj (o3×Obj)) (s:o7) (σ:St) (H:Hp) (x y:V) (u v:o6) (Q:VK),Inv X oq σ H s->RelV x u->RelV y v->rd x y H Q->wpAny (model X.prog X.w) X.A (inplaceOp op u v) (EP X oq σ Q) X.xe s
def sFldAug (K:o0)(ta tv:TE)(rd:V->V->Hp->VK->Prop)(f:Str):TS:=λD σ H=>ta σ H λx H1=>∃a C dx fs v,x= .ref a/\H1 a=some (.ins C dx fs)/\Cls K C/\Qx K C f/\fs.lookup f=some v/\
 tv σ H1 λy H2=>rd v y H2 λz H3=>∃dx' fs',H3 a=some (.ins C dx' fs')/\fs'.length<1000/\D.nx σ (upd H3 a (.ins C dx' (putF f z fs')))
section
variable {X:Cx}{o e value:Expr}{f:Str}{pos pos' tpos:Pos}{ta tv:TE}
theorem qG (O:PE X e ta)(U:attributeBase e f X.env (eval e X.env)=eval e X.env):PE X (.Attribute e f pos) (tFld X.K ta f):=by
 intro oq s σ H Q I h;refine attr_of U (thn (O oq s σ H _ I h) λu s1 ⟨x,H1,I1,rx,a,C,dx,fs,v,ex,ea,c,n,l,q⟩=> ?_);subst ex;obtain rfl:u=Value.ref a:=rx;exact Wf I1 ea c n l λu' s2 I2 ru=>⟨v,H1,I2,ru,q⟩
theorem qX (ha:PE X o ta)(O:PE X value tv)(U:swapsWith value (some (.Attribute o f pos')) pos.line X.env=pure false):PS X (.Assign [.Attribute o f pos'] value pos) (sFld X.K ta tv f):=by
 intro oq s σ H D I h;refine plainObj_wpAny_Assign_Attribute (thn (O oq s σ H _ I h) λu s1 ⟨y,H1,I1,ry,q⟩=>thn (ha oq s1 σ H1 _ I1 q) λov s2 ⟨x,H2,I2,rx,a,C,dx,fs,ex,ea,c,n,l,q2⟩=> ?_) U;subst ex;obtain rfl:ov=Value.ref a:=rx;exact wg I2 ea c n l ry λs3 I3=>⟨σ,_,I3,q2⟩
theorem jN {op:Operator}{rd:V->V->Hp->VK->Prop}(ha:PE X o ta)(hv:PE X value tv)(O:InOp X op rd):PS X (.AugAssign (.Attribute o f tpos) op value pos) (sFldAug X.K ta tv rd f):=by
 intro oq s σ H D I h;refine wpAny_AugAssign_AttributeAny (thn (ha oq s σ H _ I h) λov s1 ⟨x,H1,I1,rx,a,C,dx,fs,v,ex,ea,c,n,l,q⟩=> ?_);subst ex;obtain rfl:ov=Value.ref a:=rx;refine Wf I1 ea c n l λu s2 I2 ru=>thn (hv oq s2 σ H1 _ I2 q) λw3 s3 ⟨y,H2,I3,ry,q3⟩=>thn (O oq s3 σ H2 v y u w3 _ I3 ru ry q3) λw4 s4 ⟨z,H3,I4,rz,dx',fs',U,l',q4⟩=> ?_;exact wg I4 U c n l' rz λs5 I5=>⟨σ,_,I5,q4⟩
def rAdd:V->V->Hp->VK->Prop:=λx y H Q=>∃i j,x= .int i/\y= .int j/\Q (.int (i+j)) H
theorem in_add:InOp X .Add rAdd:=by
 rintro oq s σ H x y u v Q I O U ⟨i,j,rfl,rfl,q⟩;obtain⟨t,rfl⟩:=(show∃t,u=Value.int i t from O)
 obtain⟨t',rfl⟩:=(show∃t',v=Value.int j t' from U)
 exact PyProof.Rows.iadd_int ⟨.int (i+j),H,I.tok _,⟨0⟩,q⟩
end
section
variable {X:Cx}{oq:oj (o3×Obj)}{σ:St}{H:Hp}{s:o7}{A:oh}{E:o6->o7->Prop}{Q:o6->o7->Prop}{c:o6}{b:Bool}
inductive TyOf (K:PySem.W.Frag) (H:Hp):V->Value->Prop where
 |non:TyOf K H .non (.type "NoneType")
 |bl (x:Bool):TyOf K H (.bl x) (.type "bool")
 |int (i:Int):TyOf K H (.int i) (.type "int")
 |str (x:Str):TyOf K H (.str x) (.type "str")
 |flt (x:UInt64):TyOf K H (.flt x) (.type "float")
 |lst {a:Addr}{xs:List V} (e:H a=some (.lst xs)):TyOf K H (.ref a) (.type "list")
 |frz {a:Addr}{o:Obj}{xs:List V} (e:H a=some (.frz o (.lst xs))):TyOf K H (.ref a) (.type "list")
 |tup {a:Addr}{xs:List V} (e:H a=some (.tup xs)):TyOf K H (.ref a) (.type "tuple")
 |dK {a:Addr}{kvs:List (Key×V)} (e:H a=some (.dK kvs)):TyOf K H (.ref a) (.type "dict")
 |dT {a:Addr}{kvs:List (List Key×V)} (e:H a=some (.dT kvs)):TyOf K H (.ref a) (.type "dict")
 |ins {a C dx:Addr}{fs:List (Str×V)} (e:H a=some (.ins C dx fs)) (cl:Cls K C) (ha:PySem.W.findIn K (.ref C) "__class__"=some (some (.builtin "object.__class__")))
   (hn:PySem.W.specialIn K (.builtin "object.__class__") "__get__"=some (some (.builtin "getset_descriptor.__get__"))) (htk:PySem.W.takesIn K (.builtin "object.__class__")=some true)
   (hm:PySem.W.mroIn K C (.type "object")=some true):TyOf K H (.ref a) (.ref C)
theorem isinst_ok {x:V}{u t:o6}(I:Inv X oq σ H s)(U:RelV x u)(ty:TyOf X.K H x t)(e:PySem.W.kitOne X.K t c=some b)(h:∀tk,Q (.bool b) {s with toks:=tk}):
  wpAny (model X.prog X.w) A (call (.builtin "isinstance") [u,c]) Q E s:=by
 cases ty with
 |non=>cases(show u=Value.none from U);exact vb PySem.W.kitx_none I.kIn True.intro e (λz=>nomatch z) h
 |bl y=>cases(show u=Value.bool y from U);exact vb PySem.W.kitx_bool I.kIn True.intro e (λz=>nomatch z) h
 |int i=>obtain⟨t,q⟩:=(show∃t,u=Value.int i t from U);cases q;exact vb PySem.W.kitx_int I.kIn True.intro e (λz=>nomatch z) h
 |str y=>obtain⟨t,q⟩:=(show∃t,u=Value.str y t from U);cases q;exact vb PySem.W.kitx_str I.kIn True.intro e (λz=>nomatch z) h
 |flt y=>obtain⟨t,q⟩:=(show∃t,u=Value.float y t from U);cases q;exact vb PySem.W.kitx_float I.kIn True.intro e (λz=>nomatch z) h
 | @lst a xs ea=>
  cases(show u=Value.ref a from U)
  obtain⟨_,_,n,_,h1⟩:=(show QJ X.prog X.w H s.heap a (.lst xs) from I.hok a _ ea)
  exact vb PySem.W.kitx_list I.kIn ⟨_,h1,1⟩ e (λz=>nomatch z) h
 | @frz a ob xs ea=>
  cases(show u=Value.ref a from U)
  obtain⟨_,_,_,n,_,h1⟩:=(show QJ X.prog X.w H s.heap a (.frz ob (.lst xs)) from I.hok a _ ea)
  exact vb PySem.W.kitx_list I.kIn ⟨_,h1,1⟩ e (λz=>nomatch z) h
 | @tup a xs ea=>
  cases(show u=Value.ref a from U)
  obtain⟨_,_,_,p⟩:=(show QJ X.prog X.w H s.heap a (.tup xs) from I.hok a _ ea)
  obtain⟨o,h1,h2,_⟩:=p;exact vb PySem.W.kitx_tuple I.kIn ⟨o,h1,h2⟩ e (λz=>nomatch z) h
 | @dK a kvs ea=>
  cases(show u=Value.ref a from U)
  obtain⟨_,_,vs,_,p⟩:=(show QJ X.prog X.w H s.heap a (.dK kvs) from I.hok a _ ea)
  obtain⟨o,es,ep,h1,h2,_⟩:=p;exact vb PySem.W.kitx_dict I.kIn ⟨o,h1,h2.1⟩ e (λz=>nomatch z) h
 | @dT a kvs ea=>
  cases(show u=Value.ref a from U)
  obtain⟨_,_,xs,_,o,es,ep,h1,h2,_⟩:=(show QJ X.prog X.w H s.heap a (.dT kvs) from I.hok a _ ea)
  exact vb PySem.W.kitx_dict I.kIn ⟨o,h1,h2.1⟩ e (λz=>nomatch z) h
 | @ins a C dx fs ea cl ha hn htk hm=>
  cases(show u=Value.ref a from U)
  obtain⟨mA,O,_⟩:=WT I.hok ea;obtain⟨od,J,_⟩:=O.look;exact vb (PySem.W.kitx_own (cl.get _) cl.hd ha hn htk hm) I.kIn J e (λz=>nomatch z) h
end
structure Room (k:Nat)(A:oh):Prop where
 hd:A.handled=none
 dp:A.depth+3*k+5<recursionLimit
 un:A.units+16*k+200<cLine
theorem Room.mono {j k:Nat}{A:oh}(r:Room k A)(h:j<=k):Room j A:=⟨r.hd,by have:=r.dp;omega,by have:=r.un;omega⟩
theorem Room.deeper {k:Nat}{A:oh}(r:Room (k+1) A)(env:Env):Room k (A.deeper env):=
 ⟨r.hd,by have:=r.dp;show A.depth+1+3*k+5<_;omega,by have:=r.un;show A.units+3+16*k+200<_;omega⟩
theorem make_depth {A:oh}{C:o3}{us:oj o6}{O:oj (Str×o6)}:(A.under (.builtin "type.__call__" ⟨.ref C::us,O⟩)).depth=A.depth+1:=by
 first|rfl|simp [Around.under,Code.weight,Code.isCreation,Code.isGuard,Code.isCaller,Code.frames,Code.isFrame,guardIds]
theorem make_units {A:oh}{C:o3}{us:oj o6}{O:oj (Str×o6)}:(A.under (.builtin "type.__call__" ⟨.ref C::us,O⟩)).units=A.units+1:=by
 first|rfl|simp [Around.under,Code.cUnits,Code.frames,Code.isFrame]
theorem Room.make {k:Nat}{A:oh}(r:Room (k+1) A)(C:o3)(us:oj o6)(O:oj (Str×o6)):Room k (A.under (.builtin "type.__call__" ⟨.ref C::us,O⟩)):=
 ⟨r.hd,by have:=r.dp;rw [make_depth];omega,by have:=r.un;rw [make_units];omega⟩
theorem Room.depth {k:Nat}{A:oh}(r:Room k A):A.depth<recursionLimit:=by have:=r.dp;omega
theorem Room.units {k:Nat}{A:oh}(r:Room k A):A.units+64<cLine:=by have:=r.un;omega
theorem Room.units0 {k:Nat}{A:oh}(r:Room k A):A.units<cLine:=by have:=r.un;omega
def tNil:TA:=λ_ H Q=>Q [] H
def tCons (ta:TE)(tr:TA):TA:=λσ H Q=>ta σ H λx H1=>tr σ H1 λxs H2=>Q (x::xs) H2
section
variable {X:Cx}{e:Expr}{es:oj Expr}{te:TE}{t:TA}{pos:Pos}
theorem qd:PA X [] tNil:=λ_ _ _ _ H Q I h=>Calls.spliced_nil ⟨[],H,I,.nil,h⟩
theorem qb (ha:PE X e te)(O:PA X es t)(U:starEach (e::es) X.env=(false,eval e X.env)::starEach es X.env:=by rfl):PA X (e::es) (tCons te t):=by
 intro pos oq s σ H Q I h;rw [U];show wpAny _ _ (spliced ((false,eval e X.env)::backTo pos (starEach es X.env))) _ _ s;refine Calls.spliced_cons (thn (ha oq s σ H _ I h) λu s1 ⟨x,H1,I1,r1,q1⟩=> ?_);exact thn (O pos oq s1 σ H1 _ I1 q1) λus s2 ⟨xs,H2,I2,r2,q2⟩=>⟨x::xs,H2,I2,.cons r1 r2,q2⟩
def tTup (t:TA):TE:=λσ H Q=>t σ H λxs H1=>xs.length<=sizeLine/\∀p,H1 p=none->Q (.ref p) (upd H1 p (.tup xs))
def tLst (t:TA):TE:=λσ H Q=>t σ H λxs H1=>xs.length<=sizeLine/\∀p,H1 p=none->Q (.ref p) (upd H1 p (.lst xs))
theorem qF {x1}(h:PA X es t):PE X (.Tuple es x1 pos) (tTup t):=by
 intro oq s σ H Q I U;refine wpAny_Tuple_spliced (thn (h pos oq s σ H _ I U) λus s1 ⟨xs,H1,O,r,z,q⟩=>⟨by rw [<-r.length];exact z,?_⟩)
 have hf:H1 s1.heap.objs.size=none:=O.hok.fresh (ug _);refine⟨.ref s1.heap.objs.size,upd H1 s1.heap.objs.size (.tup xs),O.laid (t':=s1.toks) (λb u e=>ua _ e) (ug _) ?_,1,q _ hf⟩;exact⟨z,us,r,⟨_,uz _ rfl,1,0⟩⟩
theorem QO (h:PA X es t):PE X (.List es pos) (tLst t):=by
 intro oq s σ H Q I U;refine wpAny_List_spliced (thn (h pos oq s σ H _ I U) λus s1 ⟨xs,H1,O,r,z,q⟩=>⟨by rw [<-r.length];exact z,?_⟩)
 have hf:H1 s1.heap.objs.size=none:=O.hok.fresh (ug _);refine⟨.ref s1.heap.objs.size,upd H1 s1.heap.objs.size (.lst xs),O.laid (t':=s1.toks) (λb u e=>ua _ e) (ug _) ?_,1,q _ hf⟩;exact⟨z,us,(0),r,uz _ rfl⟩
end
abbrev Sp:=oj V->Hp->VK->XK->Prop
abbrev CXT:=oj Env->Hp->o7->XK->o6->o7->Prop
structure Env0 (P:o9)(w:og)(K:o0)(mg:Str->om o6)(base:o8)(A:oh)(outer:oj Env)(s:o7)(H:Hp):Prop where
 frames:A.frames=some outer
 mod:Mod K mg base
 bs:∀b o,base.get? b=some o->s.heap.get? b=some o/\H b=none
 bsz:base.objs.size<=s.heap.objs.size
 funs:s.heap.FunFrames base outer
 frf:∀b∈frs outer,H b=none
 hok:HOk P w H s.heap
 bare:AllBare s.gens
def CE (outer:oj Env)(P:o9)(w:og)(H:Hp)(s:o7)(Q:VK)(u:o6)(s':o7):Prop:=
 ∃v H',s'.os=s.os/\AllBare s'.gens/\0<s'.toks/\Un (frs outer) [] H H' s.heap s'.heap/\HOk P w H' s'.heap/\RelV v u/\Q v H'
def CR (CX:CXT)(outer:oj Env)(P:o9)(w:og)(H:Hp)(s:o7)(Q:VK)(E:XK)(r:Result)(s':o7):Prop:=
 match r with
 | .ok (.ret u)=>CE outer P w H s Q u s'
 | .ok _=>False
 | .error e=>CX outer H s E e s'
structure FnOk (P:o9)(w:og)(K:o0)(mg:Str->om o6)(base:o8)(CX:CXT)(k:Nat)(f:o3)(fd:FuncData)(ps:oj Str)(sp:Sp):Prop where
 len:∀vs H Q E,sp vs H Q E->vs.length=ps.length
 run:∀(A:oh) (outer:oj Env) (s:o7) (H:Hp) (args:Args) (us:oj o6) (vs:oj V) (Q:VK) (E:XK),Room k A->Env0 P w K mg base A outer s H->BindsTo s fd args (ps.zip us)->Vals vs us->sp vs H Q E->(0<s.toks∨∃x r,ps=x::r/\fd.scope.names.lookup x=some .local)->
  codeAny (model P w) A (.call (.ref f) args) (CR CX outer P w H s Q E) s
theorem Env0.make {P:o9}{w:og}{K:o0}{mg:Str->om o6}{base:o8}{A:oh}{outer:oj Env}{s:o7}{H:Hp}(e:Env0 P w K mg base A outer s H)(C:o3)(us:oj o6)(O:oj (Str×o6)):
  Env0 P w K mg base (A.under (.builtin "type.__call__" ⟨.ref C::us,O⟩)) outer s H:=⟨by first|exact e.frames|(simpa [Around.under,Code.envs,Code.isFrame,pushEnvs] using e.frames),e.mod,e.bs,e.bsz,e.funs,e.frf,e.hok,e.bare⟩
section
variable {X:Cx}{oq:oj (o3×Obj)}{σ:St}{H:Hp}{s s':o7}
theorem Inv.env0 (I:Inv X oq σ H s):Env0 X.prog X.w X.K X.mg X.base X.A X.stack s H:=
 ⟨I.ok.frames,I.ok.mod,I.bs,uQ I.ok.bsz I.sz,I.stack,I.stkFree,I.hok,I.bare⟩
theorem Inv.after {Q:VK}{u:o6}(I:Inv X oq σ H s)(h:CE X.stack X.prog X.w H s Q u s'):EP X oq σ Q u s':=by
 obtain⟨v,H',os,bare,htk,un,hok,r,q⟩:=h;obtain⟨U,g,d,t,O⟩:=s';obtain rfl:O=s.os:=os;exact⟨v,H',I.call (h':=U) (g':=g) (d':=d) (t':=t) (ch:= []) un hok bare (λb z=>absurd z (by simp)),r,q⟩
end
def tCall (sp:Sp)(dvs:oj V)(E:XK)(t:TA):TE:=λσ H Q=>t σ H λvs H1=>sp (vs++dvs) H1 Q E
def tMeth (C:o3)(m:Str)(sp:Sp)(dvs:oj V)(E:XK)(ta:TE)(t:TA):TE:=λσ H Q=>ta σ H λx H1=>∃a dx fs,x= .ref a/\H1 a=some (.ins C dx fs)/\fs.lookup m=none/\
 t σ H1 λvs H2=>sp (x::(vs++dvs)) H2 Q E
def tMake (C:o3)(sp:Sp)(dvs:oj V)(E:XK)(t:TA):TE:=λσ H Q=>t σ H λvs H1=>∀x dx,H1 x=none->H1 dx=none->dx≠x->
 sp (.ref x::(vs++dvs)) (upd (upd H1 dx (.own x)) x (.ins C dx [])) (λv H2=>v= .non/\Q (.ref x) H2) E
def J5 (K:o0)(fd:FuncData)(ps:oj Str)(ds:oj o6):Prop:=
 ∀(s:o7) (us:oj o6),K.In s.heap->(us++ds).length=ps.length->BindsTo s fd ⟨us,[]⟩ (ps.zip (us++ds))
theorem J5.all {K:o0}{fd:FuncData}{ps:oj Str}(h:∀us:oj o6,us.length=ps.length->bindArgs fd ⟨us,[]⟩=pure (ps.zip us)):J5 K fd ps []:=λs us _ O=>by
 rw [vR] at O⊢;exact .of_eq (h us O)
def xm (CX:CXT)(X:Cx)(E:XK):Prop:=∀(oq:oj (o3×Obj)) (σ:St) (H:Hp) (s:o7) (e:o6) (s':o7),Inv X oq σ H s->CX X.stack H s E e s'->X.xe e s'
section
variable {X:Cx}{CX:CXT}{k:Nat}{f C:o3}{fd:FuncData}{ps:oj Str}{sp:Sp}{dvs:oj V}{ds:oj o6}{E:XK}{x m:Str}{p pos apos:Pos}{e o:Expr}{es:oj Expr}{ta:TE}{t:TA}
theorem run_fn {oq:oj (o3×Obj)}{σ:St}{H:Hp}{s:o7}{Q:VK}{us:oj o6}{vs:oj V}(F:FnOk X.prog X.w X.K X.mg X.base CX k f fd ps sp)(hr:Room k X.A)(hb:J5 X.K fd ps ds)(hd:Vals dvs ds)(hx:xm CX X E)
  (I:Inv X oq σ H s) (r:Vals vs us) (h:sp (vs++dvs) H Q E):wpAny (model X.prog X.w) X.A (call (.ref f) us) (EP X oq σ Q) X.xe s:=by
 have U:Vals (vs++dvs) (us++ds):=r.append hd;have hl:(us++ds).length=ps.length:=by rw [<-U.length];exact F.len _ _ _ _ h
 refine wpAny_call (codeAny_mono (F.run X.A X.stack s H ⟨us,[]⟩ (us++ds) (vs++dvs) Q E hr I.env0 (hb s us I.kIn hl) U h (.inl I.tk)) λr s' O=> ?_);cases r with
 |error e=>exact hx oq σ H s e s' I O
 |ok fl=>
  cases fl with
  |ret u=>exact I.after O
  |next=>exact False.elim O
  |brk=>exact False.elim O
  |cont=>exact False.elim O
theorem qx (F:FnOk X.prog X.w X.K X.mg X.base CX k f fd ps sp)(hr:Room k X.A)(hg:Gl X x)(hm:X.mg x=some (.ref f))(hk:PySem.W.keepIn X.K (.ref f)=true)(hb:J5 X.K fd ps ds)(hd:Vals dvs ds)(hx:xm CX X E)
  (ha:PA X (e::es) t) (O:(x==("__debug__":Str))=false) (he:starEach (e::es) X.env=(false,eval e X.env)::starEach es X.env) (U:(backTo pos (starEach es X.env)).any (·.1)=false):
  PE X (.Call (.Name x p) (e::es) [] pos) (tCall sp dvs E t):=by
 intro oq s σ H Q I h;refine U5 (XC I hg hm ?_ O);refine U6 (h₀:=X.base) I.ok.mod.kin hk (thn (ha pos oq s σ H _ I h) λus s1 ⟨vs,H1,I1,r,q⟩=>⟨I1.kIn,?_⟩) he U;exact run_fn F hr hb hd hx I1 r q
theorem Qr {pl:Sem Bool}(he:PE X o ta)(c:Cls X.K C)(hm:Meth X.K C m f)(F:FnOk X.prog X.w X.K X.mg X.base CX k f fd ps sp)(hr:Room k X.A)(hb:J5 X.K fd ps ds)(hd:Vals dvs ds)(hx:xm CX X E)(ha:PA X (e::es) t)
  (O:starEach (e::es) X.env=(false,eval e X.env)::starEach es X.env) (U:(backTo pos (starEach es X.env)).any (·.1)=false)
  (ht:eval (.Call (.Attribute o m apos) (e::es) [] pos) X.env=(do
   let ov<-eval o X.env
   standAt apos.atName
   let(f,first)<-holding [ov] (getMethod ov m pl)
   callWith pos f first (backTo pos (starEach (e::es) X.env)) (backToKw pos (keywordEach [] X.env)))):
  PE X (.Call (.Attribute o m apos) (e::es) [] pos) (tMeth C m sp dvs E ta t):=by
 intro oq s σ H Q I h;refine PySem.W.methodCall_KW (pl:=pl) (thn (he oq s σ H _ I h) λu s1 ⟨x,H1,I1,rx,a,dx,fs,ex,ea,l,q⟩=> ?_) ht;subst ex;obtain rfl:u=Value.ref a:=rx;refine wY I1 ea c hm l ?_;refine U6 (first:= [.ref a]) (h₀:=X.base) I.ok.mod.kin hm.kp (thn (ha pos oq s1 σ H1 _ I1 q) λus s2 ⟨vs,H2,I2,r,q2⟩=>⟨I2.kIn,?_⟩) O U;exact run_fn (us:= .ref a::us) (vs:= .ref a::vs) F hr hb hd hx I2 (.cons rfl r) q2
theorem Q3 {pl:Sem Bool}(U:PE X o ta)(c:Cls X.K C)(hm:Meth X.K C m f)(F:FnOk X.prog X.w X.K X.mg X.base CX k f fd ps sp)(hr:Room k X.A)(hb:J5 X.K fd ps ds)(hd:Vals dvs ds)(hx:xm CX X E)
  (ht:eval (.Call (.Attribute o m apos) [] [] pos) X.env=(do
   let ov<-eval o X.env
   standAt apos.atName
   let(f,first)<-holding [ov] (getMethod ov m pl)
   callWith pos f first (backTo pos (starEach [] X.env)) (backToKw pos (keywordEach [] X.env)))):
  PE X (.Call (.Attribute o m apos) [] [] pos) (tMeth C m sp dvs E ta tNil):=by
 intro oq s σ H Q I h;refine PySem.W.methodCall_KW (pl:=pl) (thn (U oq s σ H _ I h) λu s1 ⟨x,H1,O,rx,a,dx,fs,ex,ea,l,q⟩=> ?_) ht;subst ex;obtain rfl:u=Value.ref a:=rx;refine wY O ea c hm l ?_;exact PySem.W.callWith_K0 (first:= [.ref a]) O.kIn hm.kp (run_fn (us:= [.ref a]) (vs:= [.ref a]) F hr hb hd hx O (.cons rfl .nil) q)
structure Mk (K:o0)(C f:o3):Prop where
 makes:PySem.W.makesIn K C=true
 init:PySem.W.findIn K (.ref C) "__init__"=some (some (.ref f))
 fn:PySem.W.isFn K (.ref f)=true
 kp:PySem.W.keepIn K (.ref C)=true
theorem run_make {oq:oj (o3×Obj)}{σ:St}{H:Hp}{s:o7}{Q:VK}{us:oj o6}{vs:oj V}(M:Mk X.K C f)(F:FnOk X.prog X.w X.K X.mg X.base CX k f fd ps sp)(hr:Room (k+1) X.A)(hb:J5 X.K fd ps ds)(hd:Vals dvs ds)
  (hx:xm CX X E) (I:Inv X oq σ H s) (r:Vals vs us)
  (h:∀x dx,H x=none->H dx=none->dx≠x->sp (.ref x::(vs++dvs)) (upd (upd H dx (.own x)) x (.ins C dx [])) (λv H2=>v= .non/\Q (.ref x) H2) E):
  wpAny (model X.prog X.w) X.A (call (.ref C) us) (EP X oq σ Q) X.xe s:=by
 have hq:=h (s.heap.objs.size+1) s.heap.objs.size (I.hok.fresh (Nat.le_succ _)) (I.hok.fresh (ug _)) (uI (Nat.lt_succ_self _));have U:=Inv.made (C:=C) I;have r2:Vals (V.ref (s.heap.objs.size+1)::(vs++dvs)) (Value.ref (s.heap.objs.size+1)::(us++ds)):= .cons rfl (r.append hd);have hl:(Value.ref (s.heap.objs.size+1)::us++ds).length=ps.length:=by
  have e:=r2.length;rw [F.len _ _ _ _ hq] at e;exact e.symm
 refine wpAny_call (make_map (f:=f) I.kIn M.makes M.init (beq_iff_eq.mp M.fn) (codeAny_mono (F.run _ X.stack _ _ ⟨Value.ref (s.heap.objs.size+1)::us,[]⟩ (Value.ref (s.heap.objs.size+1)::(us++ds)) _ _ E (hr.make C us [])
  (U.env0.make C us []) (hb _ (Value.ref (s.heap.objs.size+1)::us) U.kIn hl) r2 hq (.inl U.tk)) λr s' O=> ?_))
 cases r with
 |error e=>exact hx oq σ _ _ e s' U O
 |ok fl=>
  cases fl with
  |ret u=>
   obtain⟨v,H',I3,rv,ev,q3⟩:=U.after O;subst ev;exact⟨rv,⟨V.ref (s.heap.objs.size+1),H',I3,1,q3⟩⟩
  |next=>exact False.elim O
  |brk=>exact False.elim O
  |cont=>exact False.elim O
theorem WG (M:Mk X.K C f)(F:FnOk X.prog X.w X.K X.mg X.base CX k f fd ps sp)(hr:Room (k+1) X.A)(hg:Gl X x)(hm:X.mg x=some (.ref C))(hb:J5 X.K fd ps ds)(hd:Vals dvs ds)(hx:xm CX X E)
  (ha:PA X (e::es) t) (O:(x==("__debug__":Str))=false) (he:starEach (e::es) X.env=(false,eval e X.env)::starEach es X.env) (U:(backTo pos (starEach es X.env)).any (·.1)=false):
  PE X (.Call (.Name x p) (e::es) [] pos) (tMake C sp dvs E t):=by
 intro oq s σ H Q I h;refine U5 (XC I hg hm ?_ O);refine U6 (h₀:=X.base) I.ok.mod.kin M.kp (thn (ha pos oq s σ H _ I h) λus s1 ⟨vs,H1,I1,r,q⟩=>⟨I1.kIn,?_⟩) he U;exact run_make M F hr hb hd hx I1 r q
end
structure qt (N P:oj Str)(sc:Scope):Prop where
 kind:sc.kind= .function
 co:sc.isCoroutine=false
 gen:sc.isGenerator=false
 nd:N.Nodup
 pre:N.take P.length=P
 par:∀x∈P,sc.names.lookup x=some .local∨sc.names.lookup x=some .cell
 nofree:∀y∈sc.names,y.2≠ .free
theorem bindL_out {kindOf:Str->om NameKind}{x:Str}:∀{binds:oj (Str×o6)}{m:Str->om o6},(∀v,(x,v)∉binds)->bindL kindOf binds m x=m x
 | [],_,_=>rfl
 |(n,v)::r,m,h=>by
  unfold bindL;rw [bindL_out λw O=>h w (ub _ O)];split
  ·have:x≠n:=by rintro rfl;exact h v ud
   simp [this]
  ·rfl
theorem bindC_out {kindOf:Str->om NameKind}{x:Str}:∀{binds:oj (Str×o6)}{m:Str->om o6},(∀v,(x,v)∉binds)->bindC kindOf binds m x=m x
 | [],_,_=>rfl
 |(n,v)::r,m,h=>by
  unfold bindC;rw [bindC_out λw O=>h w (ub _ O)];split
  ·rfl
  ·have:x≠n:=by rintro rfl;exact h v ud
   simp [this]
theorem bindL_get {kindOf:Str->om NameKind}{x:Str}{v:o6}:∀{P:oj Str}{vs:oj o6}{i:Nat}{m:Str->om o6},P.Nodup->P[i]? =some x->vs[i]? =some v->kindOf x=some .local->
  bindL kindOf (P.zip vs) m x=some v
 | [],_,_,_,_,h,_,_=>by simp at h
 |_::_,[],_,_,_,_,h,_=>by simp at h
 |p::P,w::vs,0,m,nd,h1,h2,hk=>by
  simp at h1 h2;subst h1;subst h2;show bindL kindOf ((p,w)::P.zip vs) m p=_;unfold bindL;rw [bindL_out λv O=>(List.nodup_cons.mp nd).1 (List.of_mem_zip O).1,if_pos hk];simp
 |p::P,w::vs,i+1,m,nd,h1,h2,hk=>by
  show bindL kindOf ((p,w)::P.zip vs) m x=_;unfold bindL;exact bindL_get (i:=i) (List.nodup_cons.mp nd).2 (by simpa using h1) (by simpa using h2) hk
theorem bindC_get {kindOf:Str->om NameKind}{x:Str}{v:o6}:∀{P:oj Str}{vs:oj o6}{i:Nat}{m:Str->om o6},P.Nodup->P[i]? =some x->vs[i]? =some v->kindOf x≠some .local->
  bindC kindOf (P.zip vs) m x=some v
 | [],_,_,_,_,h,_,_=>by simp at h
 |_::_,[],_,_,_,_,h,_=>by simp at h
 |p::P,w::vs,0,m,nd,h1,h2,hk=>by
  simp at h1 h2;subst h1;subst h2;show bindC kindOf ((p,w)::P.zip vs) m p=_;unfold bindC;rw [bindC_out λv O=>(List.nodup_cons.mp nd).1 (List.of_mem_zip O).1,if_neg hk];simp
 |p::P,w::vs,i+1,m,nd,h1,h2,hk=>by
  show bindC kindOf ((p,w)::P.zip vs) m x=_;unfold bindC;exact bindC_get (i:=i) (List.nodup_cons.mp nd).2 (by simpa using h1) (by simpa using h2) hk
def WN (N:oj Str)(vs:oj V):St:=vs.map some++List.replicate (N.length-vs.length) none
noncomputable def cxOf (CX:CXT)(P:o9)(w:og)(K:o0)(mg:Str->om o6)(base:o8)(N:oj Str)(qual:Str)(scope:Scope)(f:o3)(cd:o6)(A:oh)(outer:oj Env)(s:o7)(H:Hp)(E:XK):Cx where
 prog:=P
 w:=w
 K:=K
 mg:=mg
 base:=base
 A:=A.deeper (envOfC qual scope s.heap.objs.size f cd)
 N:=N
 s₀:=s
 H₀:=H
 env:=envOfC qual scope s.heap.objs.size f cd
 outer:=outer
 stack:=envOfC qual scope s.heap.objs.size f cd::outer
 ex:= []
 calm:=true
 fn:=λ_=>true
 pn:= []
 xe:=λe s'=>wpAny (model P w) (A.deeper (envOfC qual scope s.heap.objs.size f cd)) (leaving (envOfC qual scope s.heap.objs.size f cd) e) (λ_ s''=>CX outer H s E e s'') (λe' s''=>CX outer H s E e' s'') s'
theorem cell_has {sc:Scope}{n:Nat}{x:Str}(h:sc.names.lookup x=some .cell):∃c,(cellsFrom n sc.names []).lookup x=some c:=by
 have q:=PySem.W.cellsFrom_some sc.names n [] (.inl h);exact Option.isSome_iff_exists.mp q
theorem inv_start {CX:CXT}{P:o9}{w:og}{K:o0}{mg:Str->om o6}{base:o8}{N ps:oj Str}{qual:Str}{scope:Scope}{f:o3}{cd:o6}{A:oh}{outer:oj Env}{s s1:o7}{H:Hp}{E:XK}{us:oj o6}{vs:oj V}
  (S:qt N ps scope) (hd:A.handled=none) (O:Env0 P w K mg base A outer s H) (hl:vs.length=ps.length) (r:Vals vs us)
  (x:InCallC s s.heap.objs.size (bindL (envOfC qual scope s.heap.objs.size f cd).kindOf (ps.zip us) λ_=>none) (cellsFrom (s.heap.objs.size+1) scope.names []) (bindC (envOfC qual scope s.heap.objs.size f cd).kindOf (ps.zip us) λ_=>none) s1) (ac:0<s1.toks):
  Inv (cxOf CX P w K mg base N qual scope f cd A outer s H E) [] (WN N vs) H s1:=by
 have ad:ps.length<=N.length:=by have:=congrArg List.length S.pre;rw [vn] at this;omega
 obtain⟨h1,tk,rfl,hk⟩:=x.done;have U:∀b:o3,b∉(cxOf CX P w K mg base N qual scope f cd A outer s H E).ex:=λb z=>absurd (show b∈([]:oj o3) from z) (by simp)
 refine⟨⟨O.mod,S.kind,1,1,ug _,λy z c h1 h2=> ?_,λy hy=> ?_,λy c _ h=> ?_,λ_=>hd,Around.frames_deeper O.frames,.inr ⟨1,1⟩,λb z=>absurd z (U b),O.bs,O.bsz,λb _ _=>U b,λb z=>absurd z (U b),O.funs,O.frf⟩,1,O.bare,Un.kept hk,⟨_,x.toInCall.ns,λi y v h1 h2 h3=> ?_⟩,λy c h=>⟨_,x.cell y c h⟩,O.hok.fresh (ug _),λy c h=> ?_,λp hp=>absurd (show p∈([]:oj (o3×Obj)) from hp) (by simp),O.hok.kept hk,?_,ac⟩
 ·exact name_of_addr x.apart (vq h1) (vq h2)
 ·have hy:scope.names.lookup y=some .cell∨scope.names.lookup y=some .free:=hy;rcases hy with hy|hy
  ·exact cell_has hy
  ·exact absurd rfl (S.nofree _ (vq hy))
 ·exact UG (x.above y c (vq h))
 ·have hi:i<vs.length:=by
   unfold WN at h2;by_cases hi:i<vs.length
   ·exact hi
   ·rw [vG (by simpa using hi)] at h2
    rw [List.getElem?_replicate] at h2;split at h2<;>cases h2
  have ha:vs[i]? =some v:=by
   unfold WN at h2;rw [Uk (by simpa using hi),uF] at h2
   cases e:vs[i]? with
   |none=>rw [e] at h2;cases h2
   |some a=>rw [e] at h2;cases h2;rfl
  obtain⟨u,hu,rv⟩:=r.get ha;have hp:ps[i]? =some y:=by
   rw [<-S.pre,List.getElem?_take_of_lt (by omega)];exact h1
  have aa:ps.Nodup:=by rw [<-S.pre];exact S.nd.sublist (List.take_sublist _ _)
  refine⟨u,rv,?_⟩;rcases S.par y (uS hp) with k|k
  ·exact .inl ⟨k,bindL_get aa hp hu k⟩
  ·obtain⟨c,e⟩:=cell_has (n:=s.heap.objs.size+1) k;refine .inr ⟨.inl k,c,e,?_⟩;have q:=x.cell y c e;rw [bindC_get aa hp hu (by show scope.names.lookup y≠_;rw [k];decide)] at q
   exact q
 ·exact O.hok.fresh (UG (x.above y c (vq h)))
 ·unfold WN;show _=N.length;rw [uD,u9,List.length_replicate];omega
theorem bindParams1 {M:Model}{A:oh}{E:o6->o7->Prop}{s₀ s:o7}{m cm:Str->om o6}{env:Env}(f:Str×o6->PUnit->Sem (ForInStep PUnit))(hf:∀n v u,f (n,v) u=(do storeName env n v;pure (.yield ⟨⟩)))(O:env.scope.kind= .function)
  (n:Str) (v:o6) (r:oj (Str×o6)) (Q:PUnit->o7->Prop) (x:InCallC s₀ env.locals m env.cells cm s) (hl:env.kindOf n=some .local)
  (aa:∀x∈r,env.kindOf x.1=some .local∨(env.kindOf x.1=some .cell/\(env.cells.lookup x.1).isSome=true))
  (h:∀s',InCallC s₀ env.locals (bindL env.kindOf ((n,v)::r) m) env.cells (bindC env.kindOf ((n,v)::r) cm) s'->0<s'.toks->Q ⟨⟩ s'):wpAny M A (forIn ((n,v)::r) ⟨⟩ f) Q E s:=by
 rw [Ue,hf];refine wpAny_bind (wpAny_bind (wpAny_storeName_local hl x.toInCall.ns (λh' ac U=>um ?_) (by rw [O];rfl)))
 have x1:InCallC s₀ env.locals (λy=>if y=n then some v else m y) env.cells cm {s with heap:=h',toks:=s.toks+1}:=by
  refine⟨⟨?_,ac,λb o e=> ?_,x.toInCall.fresh⟩,λk c hc=> ?_,x.apart,x.above⟩
  ·obtain⟨h₁,tk,rfl⟩:=x.toInCall.same;exact⟨h',0⟩
  ·have:=x.toInCall.keep b o e;exact U.extBut b o (uI (Nat.lt_of_lt_of_le (uw e) x.toInCall.fresh)) (x.toInCall.keep b o e)
  ·exact(x.cell k c hc).sameBut U (Ud (x.above k c (mem_of_lookup hc)))
 refine uN (n:=1) (Nat.succ_le_succ (uW _)) (wpAny_bindParams f hf O r _ _ _ _ x1 aa λs' y h1=>h s' ?_ h1);unfold bindL bindC;rw [if_pos hl,if_pos hl];exact y
theorem newEnv_tk {M:Model}{A:oh}{E:o6->o7->Prop}{s:o7}{scope:Scope}{globals:o3}{binds:oj (Str×o6)}{qual:Str}{func:om o3}{O:o6}{builtins:o3}{Q:Env->o7->Prop}
  (aa:scope.kind= .function)
  (ac:∀x∈binds,scope.names.lookup x.1=some .local∨(scope.names.lookup x.1=some .cell/\((cellsFrom (s.heap.objs.size+1) scope.names []).lookup x.1).isSome=true))
  (htk:0<s.toks∨∃n v r,binds=(n,v)::r/\scope.names.lookup n=some .local)
  (hq:∀en,en=newEnv scope s.heap.objs.size globals (cellsFrom (s.heap.objs.size+1) scope.names []) qual func O none builtins->
   ∀s',InCallC s en.locals (bindL en.kindOf binds λ_=>none) en.cells (bindC en.kindOf binds λ_=>none) s'->0<s'.toks->Q en s'):
  wpAny M A (newFunctionEnv scope globals [] binds qual func O none builtins) Q E s:=by
 rcases htk with htk|⟨n,v,r,rfl,hl⟩
 ·exact uN (n:=1) htk (wpAny_newFunctionEnv_cells aa ac λenv he s' x h1=>hq env he s' x h1)
 ·simp only [newFunctionEnv,Option.isSome_none,vJ,UJ];refine wpAny_bind (wpAny_alloc ?_);refine wpAny_bind (wpAny_layCells _ (λname kind cells=>by cases ad:kind==NameKind.cell<;>simp [ad]) _ _ _ _ ?_)
  have U:=cellsFrom_ok scope.names (s.heap.push {cls:= .type "frame",data:= .dict #[]}) (s.heap.objs.size+1) [] ⟨λ_ _ hm=>(nomatch hm),List.Pairwise.nil⟩ (by rw [vh];exact ug _);rw [vh] at U;rw [show({s with heap:=s.heap.push {cls:= .type "frame",data:= .dict #[]}}:o7).heap.objs.size=s.heap.objs.size+1 from vh ..]
  exact wpAny_bind (bindParams1 (s₀:=s) (env:=newEnv scope s.heap.objs.size globals (cellsFrom (s.heap.objs.size+1) scope.names []) qual func O none builtins)
   _ (λ_ _ _=>rfl) aa n v r _
   ⟨⟨⟨_,_,by rfl⟩,(Heap.Ns.new s.heap (.type "frame")).keeps (pushCells_keeps _ _),λb o e=>pushCells_keeps _ _ b o (ua _ e),ug _⟩,
    λm c hc=>(U.empty m c (mem_of_lookup hc)).1,U.apart,λn c hm=>(U.empty n c hm).2⟩
   hl (λy hy=>ac y (ub _ hy)) λs' x h1=>um (hq _ rfl s' x h1))
theorem fn_of {CX:CXT}{P:o9}{w:og}{K:o0}{mg:Str->om o6}{base:o8}{k:Nat}{f:o3}{name qual:Str}{O:Arguments}{U:oj Stmt}{scope:Scope}{dV kV doc pm cdv ct oc:o6}{an od:om o3}
  {osl:Array (om o6)}{N ps:oj Str}{sp:Sp} (lk:K.lookup f=some ⟨oc,od,.func (PySem.W.fnOf name qual O U scope dV kV doc pm an cdv ct),osl⟩) (af:PySem.W.codeIn K cdv qual=true) (S:qt N ps scope)
  (len:∀vs H Q E,sp vs H Q E->vs.length=ps.length)
  (aa:∀(A:oh) (outer:oj Env) (s:o7) (H:Hp) (vs:oj V) (Q:VK) (E:XK),Room k (A.deeper (envOfC qual scope s.heap.objs.size f cdv))->sp vs H Q E->
   ∃t,PSs (cxOf CX P w K mg base N qual scope f cdv A outer s H E) U t/\t {nx:=λ_ H'=>Q .non H',rt:=Q} (WN N vs) H):
  FnOk P w K mg base CX (k+1) f (PySem.W.fnOf name qual O U scope dV kV doc pm an cdv ct) ps sp:=by
 refine⟨len,λA outer s H args us vs Q E hr e0 hb r ad htk=> ?_⟩;have hl:=len _ _ _ _ ad;have KX:K.In s.heap:=e0.mod.kin.keeps λb o e=>(e0.bs b o e).1;have ag:s.heap.NoLimit:=e0.mod.nolimit.keeps λb o e=>(e0.bs b o e).1;have ac:∀y∈ps.zip us,scope.names.lookup y.1=some .local∨(scope.names.lookup y.1=some .cell/\((cellsFrom (s.heap.objs.size+1) scope.names []).lookup y.1).isSome=true):=λ⟨n,v⟩ hy=>by
  rcases S.par n (List.of_mem_zip hy).1 with q|q
  ·exact .inl q
  ·exact .inr ⟨q,PySem.W.cellsFrom_some _ _ _ (.inl q)⟩
 have ae:0<s.toks∨∃n v r,ps.zip us=(n,v)::r/\scope.names.lookup n=some .local:=by
  rcases htk with h|⟨y,q,e,hy⟩
  ·exact .inl h
  ·have:us.length=ps.length:=by rw [<-r.length];exact hl
   subst e
   match us,this with
   |u::us',_=>exact .inr ⟨y,u,q.zip us',1,hy⟩
 refine codeAny_call_function hr.depth (KX _ _ lk) rfl S.co S.gen rfl (PySem.W.codeRec_of KX af) (hb _ _ _ _ ?_);refine newEnv_tk S.kind ac ae λenv he s1 x ah=> ?_;subst he;refine⟨ag.keeps x.toInCall.keep,codeAny_func ?_⟩;obtain⟨t,ht,hq⟩:=aa A outer s H vs Q E (hr.deeper _) ad;have I:Inv (cxOf CX P w K mg base N qual scope f cdv A outer s H E) [] (WN N vs) H s1:=inv_start S hr.hd e0 hl r x ah;refine vg (ht [] s1 (WN N vs) H _ I hq) (λfl s' hs=> ?_) λe s' hs=>hs;have fin:∀{σ':St}{H':Hp}{v:V}{u:o6},Inv (cxOf CX P w K mg base N qual scope f cdv A outer s H E) [] σ' H' s'->RelV v u->Q v H'->CE outer P w H s Q u s':=
  λ{σ' H' v u} J rv q=>⟨v,H',J.os,J.bare,J.tk,J.base,J.hok,rv,q⟩
 cases fl with
 |ret u=>
  obtain⟨v,σ',H',J,rv,q⟩:=hs;exact fin J rv q
 |next=>
  obtain⟨σ',H',J,q⟩:=hs;exact fin (v:=V.non) (u:=Value.none) J rfl q
 |brk=>
  obtain⟨_,_,_,q⟩:=hs;exact False.elim q
 |cont=>
  obtain⟨_,_,_,q⟩:=hs;exact False.elim q
section
variable {X:Cx}{x:Str}{p pos:Pos}{e:Expr}{es:oj Expr}{t:TA}{id T:String}{r:oj V->Hp->VK->Prop}
def tCB (r:oj V->Hp->VK->Prop)(t:TA):TE:=λσ H Q=>t σ H λvs H1=>r vs H1 Q
theorem qy (hc:y6 X (.builtin id) r)(hg:Gl X x)(hm:X.mg x=none)(hv:bootBuiltins x=some (.builtin id))(ha:PA X (e::es) t)(hn:x≠"__name__")(O:(x==("__debug__":Str))=false)
  (he:starEach (e::es) X.env=(false,eval e X.env)::starEach es X.env) (U:(backTo pos (starEach es X.env)).any (·.1)=false):PE X (.Call (.Name x p) (e::es) [] pos) (tCB r t):=by
 intro oq s σ H Q I h;refine U5 (wx I hg hm hv ?_ hn O);exact PyProof.Rows.callWith_builtin1 (thn (ha pos oq s σ H _ I h) λus s1 ⟨vs,H1,I1,r1,q1⟩=>hc oq s1 σ H1 vs us Q I1 r1 q1) he U
theorem qY (hc:y6 X (.type T) r)(hg:Gl X x)(hm:X.mg x=none)(hv:bootBuiltins x=some (.type T))(ha:PA X (e::es) t)(hn:x≠"__name__")(O:(x==("__debug__":Str))=false)
  (he:starEach (e::es) X.env=(false,eval e X.env)::starEach es X.env) (U:(backTo pos (starEach es X.env)).any (·.1)=false):PE X (.Call (.Name x p) (e::es) [] pos) (tCB r t):=by
 intro oq s σ H Q I h;refine U5 (wx I hg hm hv ?_ hn O);exact vE (thn (ha pos oq s σ H _ I h) λus s1 ⟨vs,H1,I1,r1,q1⟩=>hc oq s1 σ H1 vs us Q I1 r1 q1) he U
end
end L2
namespace HT
open PySem PyProof.Rows
section
variable {prog:o9}{w:og}{A:oh}{E:o6->o7->Prop}{s:o7}
theorem cat_tup {t b:o3}{vs ws:oj o6}{Q:o6->o7->Prop}(ht:IsTup s.heap t vs.toArray)(hb:IsTup s.heap b ws.toArray)(hv:vs≠ [])
  (h1:ws= []->Q (.ref t) s) (h2:ws≠ []->Q (.ref s.heap.objs.size) {s with heap:=s.heap.push {cls:= .type "tuple",data:= .seq (vs++ws).toArray}})
  (hsz:vs.length+ws.length<=sizeLine):wpAny (model prog w) A (binaryOp .Add (.ref t) (.ref b)) Q E s:=by
 obtain⟨⟨cls,dd,data,sl⟩,ho,hc,n,hd⟩:=id ht;obtain⟨⟨af,U,ae,aa⟩,O,ac,n2,ad⟩:=id hb;simp only at hc hd ac ad;subst hc hd ac ad;have e:vs.toArray++ws.toArray=(vs++ws).toArray:=by simp
 by_cases hw:ws= []
 ·exact concat_meets ⟨_,ho,1⟩ ⟨_,O,1⟩ noFill_tuple_add seq_tuple_add PySem.F.slot_tuple_add Us (Uo _ _)
   (tuple_addW1 t b vs.toArray ws.toArray n n2 dd U sl aa (by simpa using hv) (by simp [hw])) ⟨ho,O,h1 hw⟩
 ·refine concat_meets ⟨_,ho,1⟩ ⟨_,O,1⟩ noFill_tuple_add seq_tuple_add PySem.F.slot_tuple_add Us (Uo _ _)
   (tuple_addW2 t b vs.toArray ws.toArray n n2 dd U sl aa (by simpa using hv) (by simpa using hw) (by rw [uj,uj];exact hsz)) ⟨ho,O,?_⟩
  rw [e];exact h2 hw
def sIx (n d:Nat):om Int->Nat
 |none=>d
 |some v=>if v<0 then(v+(n:Int)).toNat else min v.toNat n
theorem sIx_none (n d:Nat):sIx n d none=d:=rfl
theorem sIx_nat (n d k:Nat):sIx n d (some (k:Int))=min k n:=by
 show(if(k:Int)<0 then((k:Int)+(n:Int)).toNat else min (k:Int).toNat n)=min k n
 rw [if_neg (by omega),Int.toNat_natCast]
theorem sIx_le (n d:Nat)(hd:d<=n)(o:om Int):sIx n d o<=n:=by
 cases o with
 |none=>exact hd
 |some v=>
  show(if v<0 then(v+(n:Int)).toNat else min v.toNat n)<=n
  by_cases O:v<0
  ·rw [if_pos O];omega
  ·rw [if_neg O];exact Nat.min_le_right _ _
theorem clip_eq (v:Int)(n d:Nat):(if v<0 then max (v+(n:Int)) 0 else min v (n:Int))=((sIx n d (some v):Nat):Int):=by
 show(if v<0 then max (v+(n:Int)) 0 else min v (n:Int))=(((if v<0 then(v+(n:Int)).toNat else min v.toNat n):Nat):Int)
 by_cases O:v<0
 ·simp only [if_pos O];omega
 ·simp only [if_neg O];omega
theorem adjust_gen (lo hi:om Int)(n:Nat):Builtin.Slice.sliceAdjust lo hi 1 (n:Int)=(((sIx n 0 lo:Nat):Int),((sIx n n hi:Nat):Int)):=by
 have h1:¬((1:Int)<0):=by omega
 unfold Builtin.Slice.sliceAdjust;simp only [h1,UJ];refine Prod.ext ?_ ?_
 ·cases lo with
  |none=>rfl
  |some v=>exact clip_eq v n 0
 ·cases hi with
  |none=>rfl
  |some v=>exact clip_eq v n n
theorem places_gen (i j:Nat):Builtin.Slice.slicePlaces (i:Int) (j:Int) 1=j-i:=by
 unfold Builtin.Slice.slicePlaces;have h1:(1:Int)>0:=by omega
 simp only [h1,if_true,Int.ediv_one];split<;>omega
theorem wO {v:o6}{o:om Int}{Q:om Int->o7->Prop}(p:IsPart v o)(h:Q o s):wpAny (model prog w) A (Builtin.Slice.slicePartIndex v) Q E s:=by
 cases p with
 |none=>exact slicePart_none h
 |int i t=>exact slicePart_int h
theorem Y5 {sl:o3}{vl vu:o6}{lo hi:om Int}{n:Nat}{Q:Int×Int×Nat->o7->Prop}(hs:s.heap.IsSliceOf sl vl vu .none)(pl:IsPart vl lo)(pu:IsPart vu hi)
  (h:Q (((sIx n 0 lo:Nat):Int),1,sIx n n hi-sIx n 0 lo) s):wpAny (model prog w) A (Builtin.Slice.sliceApplied (.ref sl) (pure (n:Int))) Q E s:=by
 obtain⟨os,O,aa,U⟩:=id hs;unfold Builtin.Slice.sliceApplied Builtin.Slice.sliceFields;refine wpAny_bind (wpAny_bind (vk O U (x:=vl) rfl (wpAny_bind (vk O U (x:=vu) rfl (wpAny_bind (vk O U (x:= .none) rfl (um ?_)))))));refine wpAny_bind (slicePart_none ?_);show wpAny _ _ (if((1:Int)==0)=true then _ else _) _ _ s
 rw [if_neg (by decide)]
 refine wpAny_bind (wO pl (wpAny_bind (wO pu (wpAny_bind (um ?_)))));show wpAny _ _ (match Builtin.Slice.sliceAdjust lo hi 1 (n:Int) with|(lo,hi)=>pure (lo,(1:Int),Builtin.Slice.slicePlaces lo hi 1)) _ _ s
 rw [adjust_gen lo hi n];show wpAny _ _ (pure (((sIx n 0 lo:Nat):Int),(1:Int),Builtin.Slice.slicePlaces ((sIx n 0 lo:Nat):Int) ((sIx n n hi:Nat):Int) 1)) _ _ s;rw [places_gen];exact um h
theorem pick_gen (xs:Array o6)(i k:Nat):((List.range k).filterMap λ(m:Nat)=>xs[((i:Int)+(m:Int)*1).toNat]?).toArray=((xs.toList.drop i).take k).toArray:=by
 have e:(λ(m:Nat)=>xs[((i:Int)+(m:Int)*1).toNat]?)=λm=>xs[i+m]? :=by
  funext m
  have:((i:Int)+(m:Int)*1).toNat=i+m:=by omega
  rw [this]
 rw [e];have:=pick_run xs i k;rw [List.filterMap_map] at this;have e2:((λx=>xs[x]?)∘λx=>i+x)=λm=>xs[i+m]? :=rfl;rw [e2] at this;rw [this]
theorem getItem_tuple_cut {t sl:o3}{items:Array o6}{vl vu:o6}{lo hi:om Int}{Q:o6->o7->Prop}(U:IsTup s.heap t items)(hs:s.heap.IsSliceOf sl vl vu .none)(pl:IsPart vl lo)(pu:IsPart vu hi)
  (hw:¬(sIx items.size 0 lo=0/\sIx items.size items.size hi=items.size))
  (h:Q (.ref s.heap.objs.size) {s with heap:=s.heap.push {cls:= .type "tuple",data:= .seq ((items.toList.drop (sIx items.size 0 lo)).take (sIx items.size items.size hi-sIx items.size 0 lo)).toArray}})
  (hsz:items.size<=sizeLine):wpAny (model prog w) A (getItem (.ref t) (.ref sl)) Q E s:=by
 have O:sizeOk (.seq ((items.toList.drop (sIx items.size 0 lo)).take (sIx items.size items.size hi-sIx items.size 0 lo)).toArray):=by
  show((items.toList.drop (sIx items.size 0 lo)).take (sIx items.size items.size hi-sIx items.size 0 lo)).toArray.size<=sizeLine;rw [uj,vn,vI,uX];omega
 have hj:sIx items.size items.size hi<=items.size:=sIx_le _ _ (ug _) hi;obtain⟨os,aa,ac,af⟩:=id hs;have ad:s.TypeIs (.ref sl) "slice":=⟨os,aa,ac⟩;unfold getItem
 try with_reducible refine wpAny_holding ?_
 first|refine wpAny_bind (um ?_)|skip
 refine wpAny_bind (wpAny_sequenceKey U.typeIs (by decide) ?_)
 refine wpAny_bind (vm (name:=Str.ofString "__getitem__") U.typeIs vt
  (vA vt U.typeIs entry_tuple_getitem ?_ (args_tuple_getitem _ _)))
 show wpAny _ _ (Builtin.Tuple.tupleItemsOf (.ref t)>>=_) _ _ s;refine wpAny_bind (tupleItemsOf_ U ?_);refine wpAny_bind (wpAny_typeOf ad ?_);rw [if_pos (by decide)]
 refine wpAny_bind (Y5 hs pl pu ?_);have ae:¬((((sIx items.size 0 lo:Nat):Int)==0&&(1:Int)==1&&(sIx items.size items.size hi-sIx items.size 0 lo)==items.size)=true):=by
  intro q;rw [ur,ur] at q;have q1:((sIx items.size 0 lo:Nat):Int)=0:=eq_of_beq q.1.1;have q2:sIx items.size items.size hi-sIx items.size 0 lo=items.size:=eq_of_beq q.2;exact hw ⟨by omega,by omega⟩
 show wpAny _ _ (if(((sIx items.size 0 lo:Nat):Int)==0&&(1:Int)==1&&(sIx items.size items.size hi-sIx items.size 0 lo)==items.size)=true then _ else _) _ _ s
 rw [if_neg ae,pick_gen]
 first
  |exact wpAny_bind (m:=Builtin.Tuple.tupleExact _) (vd (um ⟨0,um h⟩) O)
  |exact wpAny_bind (m:=Builtin.Tuple.tupleExact _) (vd (wpAny_bind (um (um ⟨0,um h⟩))) O)
  |exact wpAny_bind (wpAny_bind (m:=Builtin.Tuple.tupleExact _) (vd (um (um ⟨0,um h⟩)) O))
  |exact wpAny_bind (wpAny_bind (m:=Builtin.Tuple.tupleExact _) (vd (um ⟨0,um h⟩) O))
end
end HT
namespace L2
open PySem PySem.Spec PyProof.Rows
abbrev TO:=St->Hp->(om Int->Hp->Prop)->Prop
def PO (X:Cx)(e:om Expr)(t:TO):Prop:=
 ∀(oq:oj (o3×Obj)) (s:o7) (σ:St) (H:Hp) (Q:om Int->Hp->Prop),Inv X oq σ H s->t σ H Q->
  wpAny (model X.prog X.w) X.A (evalPart e X.env) (λu s'=>∃o H',Inv X oq σ H' s'/\IsPart u o/\Q o H') X.xe s
def tNoPart:TO:=λ_ H Q=>Q none H
def tPart (t:TE):TO:=λσ H Q=>t σ H λx H1=>∃i,x= .int i/\Q (some i) H1
theorem intsAre_of {ns:oj Int}:∀{us:oj o6},Vals (ns.map V.int) us->IntsAre us ns:=by
 induction ns with
 |nil=>intro us r;rw [Uf] at r;cases r;exact .nil
 |cons n ns O=>
  intro us r;rw [uq] at r;cases r with
  |cons U r2=>
   obtain⟨t,e⟩:=U;subst e;exact .cons n t (O r2)
section
variable {X:Cx}{e:Expr}{te:TE}{lo hi:om Expr}{tl th:TO}{pos p2:Pos}
theorem Wz:PO X none tNoPart:=by
 intro oq s σ H Q I h;rw [evalPart_none];exact um ⟨none,H,I,.none,h⟩
theorem zW (h:PE X e te):PO X (some e) (tPart te):=by
 intro oq s σ H Q I O;rw [evalPart_some];refine thn (h oq s σ H _ I O) λu s1 ⟨x,H1,U,r1,q1⟩=> ?_;obtain⟨i,rfl,q⟩:=q1;obtain⟨t,rfl⟩:=r1;exact⟨some i,H1,U,.int i t,q⟩
def SlR (X:Cx)(r:V->om Int->om Int->Hp->VK->Prop):Prop:=
 ∀(oq:oj (o3×Obj)) (s:o7) (σ:St) (H:Hp) (x:V) (v vl vu:o6) (lo hi:om Int) (sl:o3) (Q:VK),Inv X oq σ H s->RelV x v->s.heap.IsSliceOf sl vl vu .none->IsPart vl lo->IsPart vu hi->r x lo hi H Q->
  ∃T id,typeLookup (.type T) "__getitem__"=pure (some (.builtin id))/\s.TypeIs v T/\wpAny (model X.prog X.w) X.A (getItem v (.ref sl)) (EP X oq σ Q) X.xe s
theorem SlR.or {r O:V->om Int->om Int->Hp->VK->Prop}(h:SlR X r)(h':SlR X O):SlR X (λx lo hi H Q=>r x lo hi H Q∨O x lo hi H Q):=by
 intro oq s σ H x v U vu lo hi sl Q I rx hs pl pu q;rcases q with q|q
 ·exact h oq s σ H x v U vu lo hi sl Q I rx hs pl pu q
 ·exact h' oq s σ H x v U vu lo hi sl Q I rx hs pl pu q
def tSl (r:V->om Int->om Int->Hp->VK->Prop)(te:TE)(tl th:TO):TE:=λσ H Q=>te σ H λx H1=>tl σ H1 λl H2=>th σ H2 λu H3=>r x l u H3 Q
theorem zA {r:V->om Int->om Int->Hp->VK->Prop}(hr:SlR X r)(he:PE X e te)(hl:PO X lo tl)(hu:PO X hi th):PE X (.Subscript e (.Slice lo hi none p2) pos) (tSl r te tl th):=by
 intro oq s σ H Q I h;refine Subscript_ (thn (he oq s σ H _ I h) λv s1 ⟨x,H1,I1,r1,q1⟩=> ?_);refine wpAny_Slice (thn (hl oq s1 σ H1 _ I1 q1) λU s2 ⟨l,H2,I2,pl,q2⟩=>thn (hu oq s2 σ H2 _ I2 q2) λvu O ⟨u,H3,I3,pu,q3⟩=> ?_);rw [evalPart_none];refine um ?_;have I4:Inv X oq σ H3 {O with heap:=O.heap.push {cls:= .type "slice",data:= .fields #[U,vu,.none]}}:=I3.kept (t':=O.toks) λb ob q=>ua _ q
 obtain⟨T,id,hT,ht,hg⟩:=hr oq {O with heap:=O.heap.push {cls:= .type "slice",data:= .fields #[U,vu,.none]}} σ H3 x v U vu l u O.heap.objs.size Q I4 r1 (Heap.IsSliceOf.new ..) pl pu q3
 show wpAny (model X.prog X.w) X.A (subscriptTail e (.Slice lo hi none p2) v (.ref O.heap.objs.size)) (EP X oq σ Q) X.xe {O with heap:=O.heap.push {cls:= .type "slice",data:= .fields #[U,vu,.none]}}
 exact tail_any (ops:= [.ref O.heap.objs.size,v]) ht hT hg (by with_unfolding_all rfl)
noncomputable def cutV (xs:oj V)(lo hi:om Int):oj V:=(xs.drop (HT.sIx xs.length 0 lo)).take (HT.sIx xs.length xs.length hi-HT.sIx xs.length 0 lo)
theorem Zh (xs:oj V)(lo hi:om Int):(cutV xs lo hi).length<=xs.length:=by
 unfold cutV;rw [vn,vI];omega
def rSlT (K:o0):V->om Int->om Int->Hp->VK->Prop:=λx lo hi H Q=>∃a xs,x= .ref a/\SqT K H a xs/\
 ¬(HT.sIx xs.length 0 lo=0/\HT.sIx xs.length xs.length hi=xs.length)/\∀p,H p=none->Q (.ref p) (upd H p (.tup (cutV xs lo hi)))
theorem sl_tup:SlR X (rSlT X.K):=by
 intro oq s σ H x v vl vu lo hi sl Q I rx hs pl pu h;obtain⟨a,xs,rfl,hx,hw,q⟩:=h;cases rx;obtain⟨its,r,U,hz⟩:=I.tuple hx;have O:its.toArray.size=xs.length:=by rw [uj];exact r.length.symm
 refine⟨"tuple",_,PyProof.Rows.slot_tuple_getitem.lookup,U.typeIs,?_⟩;refine HT.getItem_tuple_cut U hs pl pu (by rw [O];exact hw) ?_ (by rw [O];exact hz)
 rw [O];refine⟨.ref s.heap.objs.size,_,I.laid (t':=s.toks) (o:= .tup (cutV xs lo hi)) (λb ob q=>ua _ q) (ug _) ?_,1,q _ (I.hok.fresh (ug _))⟩;exact⟨uQ (Zh xs lo hi) hz,_,(r.drop (HT.sIx xs.length 0 lo)).take (HT.sIx xs.length xs.length hi-HT.sIx xs.length 0 lo),IsTup.new _ _⟩
def rCatT (K:o0):R2:=λx y H Q=>∃a b xs ys,x= .ref a/\y= .ref b/\SqT K H a xs/\SqT K H b ys/\xs≠ []/\xs.length+ys.length<=sizeLine/\
 (ys= []->Q (.ref a) H)/\(ys≠ []->∀p,H p=none->Q (.ref p) (upd H p (.tup (xs++ys))))
theorem Vals.nil_iff {xs:oj V}{us:oj o6}(r:Vals xs us):us= []↔xs= []:=by
 cases r with
 |nil=>simp
 |cons _ _=>simp
theorem op_catT:OpR X (binaryOp .Add) (rCatT X.K):=by
 intro oq s σ H x y v u Q I rx ry h;obtain⟨a,b,xs,ys,rfl,rfl,ha,hb,hx,hz,q1,q2⟩:=h;cases rx;cases ry;obtain⟨its,U,p1,_⟩:=I.tuple ha;obtain⟨aa,O,p2,_⟩:=I.tuple hb;refine HT.cat_tup p1 p2 (λz=>hx (U.nil_iff.mp z)) (λz=>⟨.ref a,H,I,1,q1 (O.nil_iff.mp z)⟩) (λz=> ?_) (by rw [<-U.length,<-O.length];exact hz)
 refine⟨.ref s.heap.objs.size,_,I.laid (t':=s.toks) (o:= .tup (xs++ys)) (λb ob q=>ua _ q) (ug _) ?_,1,q2 (λw=>z (O.nil_iff.mpr w)) _ (I.hok.fresh (ug _))⟩;exact⟨by rw [uD];exact hz,_,U.append O,IsTup.new _ _⟩
end
noncomputable def ixN (n:Nat)(i:Int):om Nat:=if 0<=i then(if i<n then some i.toNat else none) else if-(n:Int)<=i then some (i+n).toNat else none
noncomputable def atI {α:Type}(xs:oj α)(i:Int):om α:=(ixN xs.length i).bind λj=>xs[j]?
theorem ixN_seq {n:Nat}{i:Int}{j:Nat}(h:ixN n i=some j):seqIndex? i n=some j/\j<n/\ -(n:Int)<=i/\i<n:=by
 unfold ixN at h;by_cases O:0<=i
 ·rw [if_pos O] at h;by_cases h1:i<n
  ·rw [if_pos h1] at h;have e:i.toNat=j:=uE h;exact⟨by rw [seqIndex_of O h1,e],by omega,by omega,h1⟩
  ·rw [if_neg h1] at h;cases h
 ·rw [if_neg O] at h;by_cases h1: -(n:Int)<=i
  ·rw [if_pos h1] at h;have e:(i+n).toNat=j:=uE h;exact⟨by rw [seqIndex_neg (by omega) h1,e],by omega,h1,by omega⟩
  ·rw [if_neg h1] at h;cases h
theorem WD {α:Type}{xs:oj α}{i:Int}{v:α}(h:atI xs i=some v):∃j,seqIndex? i xs.length=some j/\xs[j]? =some v/\j<xs.length/\ -(xs.length:Int)<=i/\i<xs.length:=by
 unfold atI at h;cases e:ixN xs.length i with
 |none=>rw [e] at h;cases h
 |some j=>
  rw [e] at h;obtain⟨h1,h2,O,h4⟩:=ixN_seq e;exact⟨j,h1,h,h2,O,h4⟩
theorem QW {α:Type}{xs:oj α}{j:Nat}{v:α}(h:xs[j]? =some v):atI xs (j:Int)=some v:=by
 have O:j<xs.length:=(List.getElem?_eq_some_iff.mp h).1;have e:ixN xs.length (j:Int)=some j:=by
  unfold ixN;rw [if_pos (by omega),if_pos (by omega)];simp
 unfold atI;rw [e];exact h
theorem W6 {α:Type}(xs:oj α)(v:α):atI (xs++ [v]) (-1)=some v:=by
 have O:(xs++ [v]).length=xs.length+1:=by simp
 have e:ixN (xs++ [v]).length (-1)=some xs.length:=by
  unfold ixN;rw [O,if_neg (by decide),if_pos (by omega)]
  congr 1
  omega
 unfold atI;rw [e];show(xs++ [v])[xs.length]? =some v;simp
def PlainIx (b:Expr):Prop:=∀o i,subscripted b false o i=operate [o,i] (getItem o i)
def IxR (X:Cx)(r:R2):Prop:=
 ∀(value slice:Expr) (oq:oj (o3×Obj)) (s:o7) (σ:St) (H:Hp) (x y:V) (v u:o6) (Q:VK),Inv X oq σ H s->RelV x v->RelV y u->r x y H Q->
  subscripted slice false v u=operate [v,u] (getItem v u)->wpAny (model X.prog X.w) X.A (subscriptTail value slice v u) (EP X oq σ Q) X.xe s
def MtR (X:Cx)(id:String)(r:V->oj V->Hp->VK->Prop):Prop:=
 ∀(oq:oj (o3×Obj)) (s:o7) (σ:St) (H:Hp) (x:V) (xs:oj V) (v:o6) (us:oj o6) (Q:VK),Inv X oq σ H s->RelV x v->Vals xs us->r x xs H Q->
  wpAny (model X.prog X.w) X.A (call (.builtin id) (v::us)) (EP X oq σ Q) X.xe s
section
variable {X:Cx}{a b:Expr}{ta tb:TE}{pos:Pos}
theorem IxR.or {r U:R2}(h:IxR X r)(h':IxR X U):IxR X (λx y H Q=>r x y H Q∨U x y H Q):=by
 intro value O oq s σ H x y v u Q I rx ry q hs;rcases q with q|q
 ·exact h value O oq s σ H x y v u Q I rx ry q hs
 ·exact h' value O oq s σ H x y v u Q I rx ry q hs
theorem qL {r:R2}(O:IxR X r)(ha:PE X a ta)(U:PE X b tb)(hs:PlainIx b):PE X (.Subscript a b pos) (tOp r ta tb):=by
 intro oq s σ H Q I h;exact Subscript_ (binT ha U I h λv u s2 x y H2 I2 rx ry q=>O a b oq s2 σ H2 x y v u Q I2 rx ry q (hs _ _))
def rIxL (K:o0):R2:=λx y H Q=>∃p xs i v,x= .ref p/\y= .int i/\SqL K H p xs/\atI xs i=some v/\Q v H
def rIxT (K:o0):R2:=λx y H Q=>∃p xs i v,x= .ref p/\y= .int i/\SqT K H p xs/\atI xs i=some v/\Q v H
def rIxS:R2:=λx y H Q=>∃z i c,x= .str z/\y= .int i/\z.length<=sizeLine/\atI z.cps.toList i=some c/\Q (.str ⟨#[c]⟩) H
theorem Yz:IxR X (rIxL X.K):=by
 intro value O oq s σ H x y v u Q I rx ry h hs;obtain⟨p,xs,i,z,rfl,rfl,hq,he,q⟩:=h;cases rx;obtain⟨t,rfl⟩:=ry;obtain⟨its,r,pl,hz⟩:=I.list hq;obtain⟨j,h1,h2,h3,h4,h5⟩:=WD he;obtain⟨w,ew,U⟩:=r.get h2;have hl:=r.length;have hn:=XV;have fin:EP X oq σ Q w s:=⟨z,H,I,U,q⟩;by_cases h0:0<=i
 ·have hj:i.toNat=j:=by
   rw [seqIndex_of h0 h5] at h1;exact uE h1
  exact item_listR pl.isList h0 (by omega) (by rw [hj];simpa using ew) fin hs
 ·have hj:(i+(its.toArray.size:Int)).toNat=j:=by
   rw [seqIndex_neg (by omega) h4] at h1
   rw [uj,<-hl];exact uE h1
  exact subscriptTail_builtinR (x:=w) pl.isList.typeIs slot_list_getitem.lookup
   (wpAny_getItem_list_neg (Q:=λr s'=>r=w/\EP X oq σ Q r s') pl.isList (by omega) (by rw [uj]<;>omega) (by omega) (by rw [hj];simpa using ew) ⟨1,fin⟩) hs
theorem qJ:IxR X (rIxT X.K):=by
 intro value O oq s σ H x y v u Q I rx ry h hs;obtain⟨p,xs,i,z,rfl,rfl,hq,he,q⟩:=h;cases rx;obtain⟨t,rfl⟩:=ry;obtain⟨its,r,pl,hz⟩:=I.tuple hq;obtain⟨j,h1,h2,h3,h4,h5⟩:=WD he;obtain⟨w,ew,U⟩:=r.get h2;have hl:=r.length;have hn:=XV;have fin:EP X oq σ Q w s:=⟨z,H,I,U,q⟩;exact subscriptTail_builtinR (x:=w) pl.typeIs slot_tuple_getitem.lookup
  (getItem_tuple (j:=j) (Q:=λr s'=>r=w/\EP X oq σ Q r s') pl (by omega) (by omega) (by rw [uj,<-hl];exact h1) (by simpa using ew) ⟨1,fin⟩) hs
theorem ix_str:IxR X rIxS:=by
 intro value O oq s σ H x y v u Q I U ry h hs;obtain⟨z,i,c,rfl,rfl,hz,he,q⟩:=h;obtain⟨t,rfl⟩:=U;obtain⟨t',rfl⟩:=ry;obtain⟨j,h1,h2,h3,h4,h5⟩:=WD he;have hl:z.cps.toList.length=z.length:=by simp [Str.length]
 rw [hl] at h1 h4 h5;have hn:=XV;exact tail_any (vy s z t) slot_str_getitem.lookup (getItem_str (c:=c) (by
  have e1:decide (i< -(2^63:Int))=false:=ue (by omega)
  have e2:decide (i≥2^63)=false:=ue (by omega)
  rw [e1,e2,Bool.or_false]) (by rw [h1];simpa using h2) ⟨.str ⟨#[c]⟩,H,I.tok _,⟨0⟩,q⟩) hs
def rIx (K:o0):R2:=λx y H Q=>rIxL K x y H Q∨rIxT K x y H Q∨rIxS x y H Q
theorem Jt:IxR X (rIx X.K):=Yz.or (qJ.or ix_str)
theorem mapSeq_set (its:oj o6)(n j:Nat)(u:o6):Obj.mapSeq (·.setIfInBounds j u) {cls:= .type "list",data:= .seq its.toArray n}={cls:= .type "list",data:= .seq (its.set j u).toArray n}:=by
 simp [Obj.mapSeq]
theorem Inv.lst {oq:oj (o3×Obj)}{σ:St}{H:Hp}{s:o7}{p:o3}{xs:oj V}(I:Inv X oq σ H s)(h:H p=some (.lst xs)):
  ∃(its:oj o6) (n:Nat),Vals xs its/\s.heap.get? p=some {cls:= .type "list",data:= .seq its.toArray n}/\xs.length<=sizeLine:=by
 obtain⟨z,its,n,r,e⟩:=I.hok p _ h;exact⟨its,n,r,e,z⟩
theorem Inv.lstUpd {oq:oj (o3×Obj)}{σ:St}{H:Hp}{s:o7}{p:o3}{xs ys:oj V}{its its':oj o6}{n O:Nat}{f:Obj->Obj}(I:Inv X oq σ H s)(h:H p=some (.lst xs))
  (ho:s.heap.get? p=some {cls:= .type "list",data:= .seq its.toArray n}) (U:f {cls:= .type "list",data:= .seq its.toArray n}={cls:= .type "list",data:= .seq its'.toArray O}) (r:Vals ys its') (hz:ys.length<=sizeLine) (t:Nat) (ht:0<t:=by ac_rfl):
  Inv X oq σ (upd H p (.lst ys)) {s with heap:=s.heap.update p f,toks:=t}:=by
 have e:(s.heap.update p f).get? p=some {cls:= .type "list",data:= .seq its'.toArray O}:=by
  rw [Heap.get?_update_self f ho (by rw [U]<;>rfl),U]
 refine I.write (x:=p) (e:=p) (by rw [h];trivial) (.inl rfl) (λb u hb q=>(Heap.get?_update_other _ _ (U0 hb)).trans q) ⟨_,e⟩ ?_
 exact⟨hz,its',O,r,e⟩
def rSetL:V->V->V->Hp->(Hp->Prop)->Prop:=λo i v H Q=>∃p xs k j,o= .ref p/\i= .int k/\H p=some (.lst xs)/\ixN xs.length k=some j/\Q (upd H p (.lst (xs.set j v)))
theorem set_list:PSet X rSetL:=by
 intro oq s σ H o i v ov iv u Q I ro ri rv h;obtain⟨p,xs,k,j,rfl,rfl,hp,hj,q⟩:=h;cases ro;obtain⟨t,rfl⟩:=ri;obtain⟨its,n,r,O,hz⟩:=I.lst hp;obtain⟨h1,h2,h3,h4⟩:=ixN_seq hj;have U:=r.length;have hn:=XV;have I':Inv X oq σ (upd H p (.lst (xs.set j v))) {s with heap:=s.heap.update p (Obj.mapSeq (·.setIfInBounds j u))}:=
  I.lstUpd hp O (mapSeq_set its n j u) (r.set rv j) (by rw [List.length_set];exact hz) s.toks
 by_cases h0:0<=k
 ·have hk:k.toNat=j:=by
   rw [seqIndex_of h0 h4] at h1;exact uE h1
  exact PySem.W.ki_setAt O h0 (by omega) (by rw [uj,<-U];exact h4) (by rw [hk];exact⟨_,I',q⟩)
 ·have hk:(k+(its.toArray.size:Int)).toNat=j:=by
   rw [seqIndex_neg (by omega) h3] at h1
   rw [uj,<-U];exact uE h1
  exact PySem.W.ki_setBack O (by omega) (by rw [uj,<-U];exact h3) (by omega) (by rw [hk];exact⟨_,I',q⟩)
theorem slice_bounds (lo hi:om Int)(n:Nat):(sliceBounds lo hi none n).1=((HT.sIx n 0 lo:Nat):Int)/\(sliceBounds lo hi none n).2.1=((HT.sIx n n hi:Nat):Int)/\(sliceBounds lo hi none n).2.2=1:=by
 refine⟨?_,?_,1⟩
 ·cases lo with
  |none=>simp [sliceBounds,HT.sIx]
  |some i=>
   simp only [sliceBounds,HT.sIx,Option.getD_none,show(1:Int)>0 by decide,if_true]
   by_cases h:i<0
   ·simp only [h,if_true]<;>omega
   ·simp only [h,UJ]<;>omega
 ·cases hi with
  |none=>simp [sliceBounds,HT.sIx]
  |some i=>
   simp only [sliceBounds,HT.sIx,Option.getD_none,show(1:Int)>0 by decide,if_true]
   by_cases h:i<0
   ·simp only [h,if_true]<;>omega
   ·simp only [h,UJ]<;>omega
theorem Ww (its:oj o6)(lo hi:om Int):slicePick its.toArray lo hi none=((its.drop (HT.sIx its.length 0 lo)).take (HT.sIx its.length its.length hi-HT.sIx its.length 0 lo)).toArray:=by
 obtain⟨h1,h2,O⟩:=slice_bounds lo hi its.toArray.size;unfold slicePick;rw [h1,h2,O];simp only [sliceRange_one,pick_run,uj]<;>rfl
def rSlL (K:o0):V->om Int->om Int->Hp->VK->Prop:=λx lo hi H Q=>∃a xs,x= .ref a/\SqL K H a xs/\∀p,H p=none->Q (.ref p) (upd H p (.lst (cutV xs lo hi)))
theorem sl_list:SlR X (rSlL X.K):=by
 intro oq s σ H x v vl vu lo hi sl Q I rx hs pl pu h;obtain⟨a,xs,rfl,hx,q⟩:=h;cases rx;obtain⟨its,r,U,hz⟩:=I.list hx;have O:=r.length;refine⟨"list",_,slot_list_getitem.lookup,U.isList.typeIs,?_⟩;refine wpAny_getItem_list_slice U.isList hs pl pu .none (by simp) ?_ (by rw [uj]<;>omega)
 rw [Ww,<-O];refine⟨.ref s.heap.objs.size,_,I.laid (t':=s.toks) (o:= .lst (cutV xs lo hi)) (λb ob q=>ua _ q) (ug _) ?_,1,q _ (I.hok.fresh (ug _))⟩;exact⟨uQ (Zh xs lo hi) hz,_,(0),(r.drop (HT.sIx xs.length 0 lo)).take (HT.sIx xs.length xs.length hi-HT.sIx xs.length 0 lo),uz _ rfl⟩
def zp:V->Bool
 | .non=>true
 | .bl _=>true
 | .int _=>true
 | .str _=>true
 |_=>false
noncomputable def eqV:V->V->Bool
 | .non,.non=>true
 | .bl a,.bl b=>a==b
 | .bl a,.int b=>(if a then 1 else 0)==b
 | .int a,.bl b=>a==(if b then 1 else 0)
 | .int a,.int b=>a==b
 | .str a,.str b=>a==b
 |_,_=>false
theorem eqAt_V {A:oh}{s:o7}{y x:V}{u v:o6}(U:RelV y u)(O:RelV x v)(fy:zp y=true)(fx:zp x=true):SeqAt.EqAt A s u v (eqV y x):=by
 cases y with
 |non=>
  cases U;cases x with
  |non=>cases O;exact SeqAt.EqAt.same _
  |bl b=>cases O;exact SeqAt.EqAt.none_bool b
  |int b=>obtain⟨t,rfl⟩:=O;exact SeqAt.EqAt.none_int b t
  |str b=>obtain⟨t,rfl⟩:=O;exact SeqAt.EqAt.none_str b t
  |_=>exact absurd (show false=true from fx) u8
 |bl a=>
  cases U;cases x with
  |non=>cases O;exact SeqAt.EqAt.bool_none a
  |bl b=>cases O;exact SeqAt.EqAt.bool_bool a b
  |int b=>obtain⟨t,rfl⟩:=O;exact SeqAt.EqAt.bool_int a b t
  |str b=>obtain⟨t,rfl⟩:=O;exact SeqAt.EqAt.bool_str a b t
  |_=>exact absurd (show false=true from fx) u8
 |int a=>
  obtain⟨t',rfl⟩:=U;cases x with
  |non=>cases O;exact SeqAt.EqAt.int_none a t'
  |bl b=>cases O;exact SeqAt.EqAt.int_bool a t' b
  |int b=>obtain⟨t,rfl⟩:=O;exact SeqAt.EqAt.int_int a t' b t
  |str b=>obtain⟨t,rfl⟩:=O;exact Uq a t' b t
  |_=>exact absurd (show false=true from fx) u8
 |str a=>
  obtain⟨t',rfl⟩:=U;cases x with
  |non=>cases O;exact SeqAt.EqAt.str_none a t'
  |bl b=>cases O;exact SeqAt.EqAt.str_bool a t' b
  |int b=>obtain⟨t,rfl⟩:=O;exact Ur a t' b t
  |str b=>obtain⟨t,rfl⟩:=O;exact SeqAt.EqAt.str_str a t' b t
  |_=>exact absurd (show false=true from fx) u8
 |_=>exact absurd (show false=true from fy) u8
noncomputable def eqU (x:V)(u:o6):Bool:=match u with
 | .none=>eqV .non x
 | .bool b=>eqV (.bl b) x
 | .int i _=>eqV (.int i) x
 | .str z _=>eqV (.str z) x
 |_=>false
theorem eqU_of {x y:V}{u:o6}(r:RelV y u)(f:zp y=true):eqU x u=eqV y x:=by
 cases y with
 |non=>cases r;rfl
 |bl b=>cases r;rfl
 |int i=>obtain⟨t,rfl⟩:=r;rfl
 |str z=>obtain⟨t,rfl⟩:=r;rfl
 |_=>exact absurd (show false=true from f) u8
theorem any_eqU {x:V}:∀{xs:oj V}{us:oj o6},Vals xs us->xs.all zp=true->us.any (eqU x)=xs.any λy=>eqV y x
 |_,_,.nil,_=>rfl
 |y::xs,u::us,.cons r t,f=>by
  rw [vi,ur] at f;rw [Ug,Ug,eqU_of r f.1,any_eqU t f.2]
theorem WI {A:oh}{s:o7}{x:V}{v:o6}(U:RelV x v)(fx:zp x=true):∀{xs:oj V}{us:oj o6},Vals xs us->xs.all zp=true->∀u∈us,SeqAt.EqAt A s u v (eqU x u)
 |_,_,.nil,_=>λu O=>by cases O
 |y::xs,u::us,.cons r t,f=>λu' O=>by
  rw [vi,ur] at f;rcases List.mem_cons.mp O with rfl|O
  ·rw [eqU_of r f.1];exact eqAt_V r U f.1 fx
  ·exact WI U fx t f.2 u' O
def inV (x:V)(xs:oj V):Bool:=xs.any λy=>eqV y x
def rIn (K:o0)(neg:Bool):R2:=λx y H Q=>∃p xs,y= .ref p/\(SqL K H p xs∨SqT K H p xs)/\zp x=true/\xs.all zp=true/\Q (.bl (if neg then !inV x xs else inV x xs)) H
theorem QR:OpR X (compareOp .In) (rIn X.K false):=by
 intro oq s σ H x y v u Q I rx ry h;obtain⟨p,xs,rfl,O,fx,fs,q⟩:=h;cases ry;rcases O with O|O
 ·obtain⟨its,r,pl,hz⟩:=I.list O;refine SeqAt.in_listAt (eqU x) pl.isList (λw U=>WI rx fx r fs w (by simpa using U)) ⟨.bl _,H,I,1,?_⟩
  rw [show its.toArray.any (eqU x)=its.any (eqU x) by simp,any_eqU r fs]
  exact q
 ·obtain⟨its,r,pl,hz⟩:=I.tuple O;refine SeqAt.in_tupleAt (eqU x) pl (λw U=>WI rx fx r fs w (by simpa using U)) ⟨.bl _,H,I,1,?_⟩
  rw [show its.toArray.any (eqU x)=its.any (eqU x) by simp,any_eqU r fs]
  exact q
theorem op_notIn_str:OpR X (compareOp .NotIn) (λx y H Q=>∃i j,x= .str i/\y= .str j/\Q (.bl (!(!(Builtin.Str.occurrences j i 0 j.length 1).isEmpty))) H):=by
 intro oq s σ H x y v u Q I O U h;obtain⟨i,j,rfl,rfl,q⟩:=h;obtain⟨t,rfl⟩:=O;obtain⟨t',rfl⟩:=U;exact notIn_str ⟨.bl _,H,I,1,q⟩
theorem qR:y6 X (.builtin "len") (λxs H Q=>∃p ys,xs= [.ref p]/\(SqL X.K H p ys∨SqT X.K H p ys)/\Q (.int ys.length) H):=by
 intro oq s σ H xs us Q I r h;obtain⟨p,ys,rfl,U,q⟩:=h;obtain⟨u,rfl,rx⟩:=JZ r;cases rx;have hn:=XV;rcases U with U|U
 ·obtain⟨its,r',pl,hz⟩:=I.list U;have O:=r'.length;exact Calls.call_len_list pl.isList (by simp only [uj]<;>omega) ⟨.int ys.length,H,I.tok _,⟨s.toks+1,by rw [uj,O]⟩,q⟩
 ·obtain⟨its,r',pl,hz⟩:=I.tuple U;have O:=r'.length;exact len_tuple pl (by simp only [uj]<;>omega) ⟨.int ys.length,H,I.tok _,⟨s.toks+1,by rw [uj,O]⟩,q⟩
theorem zc:y6 X (.builtin "len") (λxs H Q=>∃z,xs= [.str z]/\z.length<=sizeLine/\Q (.int z.length) H):=by
 intro oq s σ H xs us Q I r h;obtain⟨z,rfl,O,q⟩:=h;obtain⟨u,rfl,t,rfl⟩:=JZ r;have hn:=XV;exact len_str (by omega) ⟨.int z.length,H,I.tok _,⟨0⟩,q⟩
theorem qT:y6 X (.type "tuple") (λxs H Q=>∃p ys,xs= [.ref p]/\((SqL X.K H p ys/\∀l,H l=none->Q (.ref l) (upd H l (.tup ys)))∨(SqT X.K H p ys/\Q (.ref p) H))):=by
 intro oq s σ H xs us Q I r h;obtain⟨p,ys,rfl,h⟩:=h;obtain⟨u,rfl,rx⟩:=JZ r;cases rx;rcases h with⟨O,q⟩|⟨O,q⟩
 ·obtain⟨its,U,pl,hz⟩:=I.list O;have aa:=U.length;refine call_tuple_list pl.isList (λh' kp=> ?_) (by simp only [uj]<;>omega)
  have I1:Inv X oq σ H {s with heap:=h'}:=I.kept (t':=s.toks) kp
  have I2:Inv X oq σ (upd H h'.objs.size (.tup ys)) {s with heap:=h'.push {cls:= .type "tuple",data:= .seq its.toArray}}:=
   I1.laid (t':=s.toks) (λb o e=>ua _ e) (ug _) (show QJ X.prog X.w _ _ _ (.tup ys) from⟨hz,its,U,IsTup.new _ _⟩)
  exact⟨.ref h'.objs.size,_,I2,1,q _ (I1.hok.fresh (ug _))⟩
 ·obtain⟨its,U,pl,hz⟩:=I.tuple O;exact call_tuple_same pl ⟨.ref p,H,I,1,q⟩
def tyV (K:o0)(T:String)(x:V)(H:Hp):Prop:=match x with
 | .str _=>T="str"
 | .int _=>T="int"
 | .ref p=>(T="list"/\∃xs,SqL K H p xs)∨(T="tuple"/\∃o,K.lookup p=some o/\o.cls= .type "tuple"/\o.dict=none)∨
   (T="dict"/\((∃kvs,H p=some (.dK kvs))∨∃kvs,H p=some (.dT kvs)))∨(T="set"/\∃S n,H p=some (.set S n))
 |_=>False
theorem tyV_is {oq:oj (o3×Obj)}{σ:St}{H:Hp}{s:o7}{T:String}{x:V}{v:o6}(I:Inv X oq σ H s)(r:RelV x v)(ty:tyV X.K T x H):
  s.TypeIs v T/\∀a,v= .ref a->∃ob,s.heap.get? a=some ob/\ob.dict=none:=by
 cases x with
 |str z=>
  obtain⟨t,rfl⟩:=r;cases(show T="str" from ty)
  exact⟨vy s z t,λ_ e=>nomatch e⟩
 |int i=>
  obtain⟨t,rfl⟩:=r;cases(show T="int" from ty)
  exact⟨typeIs_int s i t,λ_ e=>nomatch e⟩
 |ref p=>
  cases r;rcases ty with⟨rfl,xs,U⟩|⟨rfl,o,O,hc,hd⟩|⟨rfl,O⟩|⟨rfl,S,n,O⟩
  ·obtain⟨its,_,pl,_⟩:=I.list U;refine⟨pl.isList.typeIs,λa e=> ?_⟩;cases e;obtain⟨o,n,e,c,hd,_⟩:=pl;exact⟨o,e,hd⟩
  ·refine⟨⟨o,I.kIn p o O,hc⟩,λa e=> ?_⟩;cases e;exact⟨o,I.kIn _ o O,hd⟩
  ·have z:∃o,s.heap.get? p=some o/\o.ExactDict:=by
    rcases O with⟨kvs,O⟩|⟨kvs,O⟩
    ·obtain⟨_,_,_,_,o,_,_,e,ex,_⟩:=I.hok p _ O;exact⟨o,e,ex⟩
    ·obtain⟨_,_,_,_,o,_,_,e,ex,_⟩:=I.hok p _ O;exact⟨o,e,ex⟩
   obtain⟨o,e,ex⟩:=z;refine⟨⟨o,e,ex.1⟩,λa e2=> ?_⟩;cases e2;exact⟨o,e,ex.2.1⟩
  ·obtain⟨o,_,_,_,e,ex,_⟩:=I.hok p _ O;refine⟨⟨o,e,ex.1⟩,λa e2=> ?_⟩;cases e2;exact⟨o,e,ex.2.1⟩
 |_=>exact False.elim ty
def tBM0 (K:o0)(T:String)(r:V->oj V->Hp->VK->Prop)(to:TE):TE:=λσ H Q=>to σ H λx H1=>tyV K T x H1/\r x [] H1 Q
def tBM (K:o0)(T:String)(r:V->oj V->Hp->VK->Prop)(to:TE)(t:TA):TE:=λσ H Q=>to σ H λx H1=>tyV K T x H1/\t σ H1 λxs H2=>r x xs H2 Q
variable {o e:Expr}{es:oj Expr}{to:TE}{t:TA}{name:Str}{apos cpos:Pos}{T id:String}{r:V->oj V->Hp->VK->Prop}
theorem pe_bm0 (pa:PlainAttrs T)(slot:Slot T name id)(aa:typeOf (.builtin id)=pure (.type "method_descriptor"))(hm:MtR X id r)(ho:PE X o to)
  (O:attributeBase o name X.env (eval o X.env)=eval o X.env) (U:(apos.endLine==cpos.line)=true):PE X (.Call (.Attribute o name apos) [] [] cpos) (tBM0 X.K T r to):=by
 intro oq s σ H Q I h;refine wpAny_Call_method0_late O U (thn (ho oq s σ H _ I h) λv s1 ⟨x,H1,I1,r1,ty,q1⟩=> ?_);obtain⟨h1,h2⟩:=tyV_is I1 r1 ty;exact⟨T,id,pa,slot,aa,h1,h2,vF rfl (PySem.evalArgs_none (hm oq s1 σ H1 x [] v [] Q I1 r1 .nil q1))⟩
theorem jU (pa:PlainAttrs T)(slot:Slot T name id)(ad:typeOf (.builtin id)=pure (.type "method_descriptor"))(hm:MtR X id r)(ho:PE X o to)(ha:PA X (e::es) t)
  (U:attributeBase o name X.env (eval o X.env)=eval o X.env:=by rfl)
  (ac:((backTo cpos (starEach (e::es) X.env)).all (λx=> !x.1)&&(backToKw cpos (keywordEach [] X.env)).all (λx=>x.1.isSome)
   &&decide ((e::es).length+([]:oj Keyword).length+(if([]:oj Keyword).isEmpty then 0 else 1)<30))=true:=by rfl)
  (aa:(apos.endLine==cpos.line)=true:=by rfl) (hs:starEach (e::es) X.env=(false,eval e X.env)::starEach es X.env:=by rfl) (O:(backTo cpos (starEach es X.env)).any (·.1)=false:=by rfl):
  PE X (.Call (.Attribute o name apos) (e::es) [] cpos) (tBM X.K T r to t):=by
 intro oq s σ H Q I h;refine wpAny_Call_method_late U ac aa rfl (thn (ho oq s σ H _ I h) λv s1 ⟨x,H1,I1,r1,ty,q1⟩=> ?_);obtain⟨h1,h2⟩:=tyV_is I1 r1 ty;refine⟨T,id,pa,slot,ad,h1,h2,?_⟩;have hA:=ha cpos oq s1 σ H1 _ I1 q1;rw [hs] at hA⊢;refine vF (by show(false||(backTo cpos (starEach es X.env)).any (·.1))=false;rw [O]<;>rfl) (Uj ?_)
 exact thn hA λus s2 ⟨vs,H2,I2,r2,q2⟩=>hm oq s2 σ H2 x vs v us Q I2 r1 r2 q2
end
def MtM (X:Cx)(id:String)(r:V->oj V->Hp->VK->Prop):Prop:=
 ∀(oq:oj (o3×Obj)) (s:o7) (σ:St) (H:Hp) (x:V) (xs:oj V) (v:o6) (us:oj o6) (Q:VK),Inv X oq σ H s->RelV x v->Vals xs us->r x xs H Q->
  wpAny (model X.prog X.w) X.A (call (.builtin id) (v::us)) (EP X oq σ Q) X.xe s
theorem Vals.one:∀{x:V}{us:oj o6},Vals [x] us->∃u,us= [u]/\RelV x u
 |_,_,.cons r .nil=>⟨0,r⟩
theorem Vals.zero:∀{us:oj o6},Vals [] us->us= []
 |_,.nil=>rfl
theorem Vals.dropLast {xs:oj V}{us:oj o6}(h:Vals xs us):Vals xs.dropLast us.dropLast:=by
 induction h with
 |nil=>exact .nil
 |cons r t O=>
  cases t with
  |nil=>exact .nil
  |cons q t'=>exact .cons r O
theorem erase_last {α:Type}(l:oj α):l.eraseIdx (l.length-1)=l.dropLast:=by
 induction l with
 |nil=>rfl
 |cons a r O=>
  cases r with
  |nil=>rfl
  |cons b r=>
   have e:(a::b::r).length-1=((b::r).length-1)+1:=by
    have h1:(a::b::r).length=r.length+2:=rfl;have h2:(b::r).length=r.length+1:=rfl;omega
   rw [e,List.eraseIdx_cons_succ,O]
   all_goals rfl
section
variable {X:Cx}{oq:oj (o3×Obj)}{σ:St}{H:Hp}{s:o7}{l b:o3}{xs ys zs:oj V}
theorem Inv.lset {its its':oj o6}{n:Nat}{f:Array o6->Array o6}{t':Nat}(I:Inv X oq σ H s)(O:H l=some (.lst xs))
  (e:s.heap.get? l=some {cls:= .type "list",data:= .seq its.toArray n}) (U:f its.toArray=its'.toArray) (hv:Vals ys its') (hz:ys.length<=sizeLine) (ht:0<t':=by ac_rfl):
  Inv X oq σ (upd H l (.lst ys)) {s with heap:=s.heap.update l (Obj.mapSeq f),toks:=t'}:=by
 have q:=PySem.IsL.update e f;rw [U] at q;refine I.write (x:=l) (e:=l) (by rw [O];exact trivial) (.inl rfl) (λb' u hb hu=>(Heap.get?_update_other s.heap (Obj.mapSeq f) (U0 hb)).trans hu) ⟨_,q⟩ ?_
 exact⟨hz,its',_,hv,q⟩
theorem Inv.lnew {its:oj o6}{t':Nat}(I:Inv X oq σ H s)(O:Vals ys its)(U:ys.length<=sizeLine)(ht:0<t':=by ac_rfl):
  Inv X oq σ (upd H s.heap.objs.size (.lst ys)) {s with heap:=s.heap.push {cls:= .type "list",data:= .seq its.toArray},toks:=t'}:=
 I.laid (λ_ _ q=>ua _ q) (ug _) ⟨U,its,(0),O,uz _ rfl⟩
theorem Inv.fresh (I:Inv X oq σ H s):H s.heap.objs.size=none:=I.hok.fresh (ug _)
theorem Inv.lstM (I:Inv X oq σ H s)(O:H l=some (.lst xs)):xs.length<=sizeLine/\∃(its:oj o6) (n:Nat),Vals xs its/\xs.length=its.length/\s.heap.get? l=some {cls:= .type "list",data:= .seq its.toArray n}:=by
 obtain⟨z,its,n,r,e⟩:=I.hok l _ O;exact⟨z,its,n,r,r.length,e⟩
theorem notLongL {n:Nat}(h:n<=sizeLine):Builtin.List.listTooLong n=false:=by
 unfold Builtin.List.listTooLong;exact ue (by omega)
end
section
variable {X:Cx}
def rAppend:V->oj V->Hp->VK->Prop:=λx vs H Q=>∃l xs y,x= .ref l/\vs= [y]/\H l=some (.lst xs)/\xs.length<sizeLine/\Q .non (upd H l (.lst (xs++ [y])))
theorem jP:MtM X "list.append" rAppend:=by
 intro oq s σ H x vs v us Q I U rv h;obtain⟨l,xs,y,rfl,rfl,O,hz,q⟩:=h;cases U;obtain⟨u,rfl,ru⟩:=rv.one;obtain⟨z,its,n,r,hl,e⟩:=I.lstM O;refine vz F.slot_list_append ⟨_,e,1⟩ F.entry_list_append (F.args_list_append_2 _ _) (PySem.list_append l its.toArray n u (by rw [uj];omega)) ⟨e,?_⟩
 refine⟨.non,_,I.lset (its':=its++ [u]) O e (by simp) (r.append (.cons ru .nil)) ?_,1,q⟩
 rw [uD,vK];omega
def rExtend:V->oj V->Hp->VK->Prop:=λx vs H Q=>∃l b xs zs,x= .ref l/\vs= [.ref b]/\H l=some (.lst xs)/\H b=some (.lst zs)/\xs.length+zs.length<=sizeLine/\Q .non (upd H l (.lst (xs++zs)))
theorem mt_extend:MtM X "list.extend" rExtend:=by
 intro oq s σ H x vs v us Q I rx rv h;obtain⟨l,b,xs,zs,rfl,rfl,hH,hB,hz,q⟩:=h;cases rx;obtain⟨u,rfl,ru⟩:=rv.one;cases ru;obtain⟨z,its,n,r,hl,e⟩:=I.lstM hH;obtain⟨z2,O,n2,r2,aa,e2⟩:=I.lstM hB;have hsz:its.toArray.size+O.toArray.size<=sizeLine:=by rw [uj,uj];omega
 have U:¬(!its.toArray.isEmpty&&Builtin.List.listTooLong (its.toArray.size+O.toArray.size))=true:=by
  rw [notLongL hsz,Bool.and_false];exact u8
 refine vz F.slot_list_extend ⟨_,e,1⟩ F.entry_list_extend (F.args_list_extend_2 _ _)
  (AutoSeq1.list_extend_list_list_0 l its.toArray n b O.toArray n2 U (by rw [uj];omega) (by omega)) ⟨e,e2,?_⟩
 refine⟨.non,_,I.lset (its':=its++O) hH e (by simp) (r.append r2) ?_,1,q⟩
 rw [uD];omega
def rPop:V->oj V->Hp->VK->Prop:=λx vs H Q=>∃l xs y,x= .ref l/\vs= []/\H l=some (.lst xs)/\xs[xs.length-1]? =some y/\Q y (upd H l (.lst xs.dropLast))
theorem mt_pop:MtM X "list.pop" rPop:=by
 intro oq s σ H x vs v us Q I rx rv h;obtain⟨l,xs,y,rfl,rfl,hH,hy,q⟩:=h;cases rx;have O:=rv.zero;subst O;obtain⟨z,its,n,r,hl,e⟩:=I.lstM hH;obtain⟨u,hu,ru⟩:=r.get hy;have U:its.toArray[its.toArray.size-1]? =some u:=by
  show its.toArray[its.length-1]? =some u;rw [<-Array.getElem?_toList,<-hl];exact hu
 refine vz F.slot_list_pop ⟨_,e,1⟩ F.entry_list_pop (F.args_list_pop_1 _) (MeetsSeq.list_pop_last l its.toArray n u U (by rw [uj];omega)) ⟨e,?_⟩
 refine⟨y,_,I.lset (its':=its.dropLast) hH e ?_ r.dropLast ?_,ru,q⟩
 ·show its.toArray.eraseIdxIfInBounds (its.toArray.size-1)=its.dropLast.toArray;rw [uj,List.eraseIdxIfInBounds_toArray,erase_last]
 ·rw [List.length_dropLast];omega
def rCat:R2:=λx y H Q=>∃l b xs zs,x= .ref l/\y= .ref b/\H l=some (.lst xs)/\H b=some (.lst zs)/\xs.length+zs.length<=sizeLine/\∀p,H p=none->Q (.ref p) (upd H p (.lst (xs++zs)))
theorem op_cat:OpR X (binaryOp .Add) rCat:=by
 intro oq s σ H x y v u Q I U ry h;obtain⟨l,b,xs,zs,rfl,rfl,hH,hB,hz,q⟩:=h;cases U;cases ry;obtain⟨z,its,n,r,hl,e⟩:=I.lstM hH;obtain⟨z2,O,n2,r2,aa,e2⟩:=I.lstM hB;refine PySem.P.add_list e e2 ?_ (by rw [uj,uj];omega)
 have ea:its.toArray++O.toArray=(its++O).toArray:=by simp
 rw [ea];exact⟨.ref _,_,I.lnew (t':=s.toks) (r.append r2) (by rw [uD];omega),1,q _ I.fresh⟩
end
section
variable {prog:o9}{w:og}{A:oh}{E:o6->o7->Prop}{s:o7}
set_option maxRecDepth 100000 in
end
section
variable {κ:Type}[DecidableEq κ]
noncomputable def valV (kvs:oj (κ×V))(k:κ):om V:=(kvs.find? λkv=>decide (kv.1=k)).map (·.2)
noncomputable def putK (kvs:oj (κ×V))(k:κ)(v:V):oj (κ×V):=
 if(kvs.any λkv=>decide (kv.1=k))=true then kvs.map (λkv=>if kv.1=k then(kv.1,v) else kv) else kvs++ [(k,v)]
def jy (kvs:oj (κ×V))(k:κ):oj (κ×V):=kvs.filter λkv=>decide (kv.1≠k)
theorem Wv {k:κ}:valV ([]:oj (κ×V)) k=none:=rfl
theorem QG {p:κ×V}{r:oj (κ×V)}{k:κ}(e:p.1=k):valV (p::r) k=some p.2:=by simp [valV,uV,e]
theorem Qw {p:κ×V}{r:oj (κ×V)}{k:κ}(e:¬p.1=k):valV (p::r) k=valV r k:=by simp [valV,uV,e]
theorem j0 (k:κ):∀kvs:oj (κ×V),(kvs.any λkv=>decide (kv.1=k))=(valV kvs k).isSome
 | []=>rfl
 |p::r=>by
  rw [Ug];by_cases e:p.1=k
  ·simp only [QG e,uc e,Bool.true_or,Option.isSome_some]
  ·rw [Qw e,ue e,Bool.false_or];exact j0 k r
theorem valV_map (k j:κ)(y:V):∀kvs:oj (κ×V),valV (kvs.map λkv=>if kv.1=k then(kv.1,y) else kv) j=(valV kvs j).map λx=>if j=k then y else x
 | []=>rfl
 |p::r=>by
  have O:=valV_map k j y r;rw [uq];by_cases h:p.1=k
  ·rw [if_pos h];by_cases e:p.1=j
   ·rw [QG (p:=(p.1,y)) e,QG e,Option.map_some,if_pos (e.symm.trans h)]
   ·rw [Qw (p:=(p.1,y)) e,Qw e,O]
  ·rw [if_neg h];by_cases e:p.1=j
   ·rw [QG (p:=p) e,QG e,Option.map_some,if_neg (λz=>h (e.trans z))]
   ·rw [Qw (p:=p) e,Qw e,O]
theorem valV_snoc (k j:κ)(y:V):∀kvs:oj (κ×V),valV kvs k=none->valV (kvs++ [(k,y)]) j=if j=k then some y else valV kvs j
 | [],_=>by
  by_cases e:k=j
  ·rw [if_pos e.symm];exact QG (p:=(k,y)) e
  ·rw [if_neg (λz=>e z.symm)];exact Qw (p:=(k,y)) e
 |p::r,hn=>by
  rw [Ul];have O:¬p.1=k:=λz=>by rw [QG z] at hn;cases hn
  rw [Qw O] at hn;have U:=valV_snoc k j y r hn;by_cases e:p.1=j
  ·rw [QG e,QG e,if_neg (λz=>O (e.trans z))]
  ·rw [Qw e,Qw e,U]
theorem xi (kvs:oj (κ×V))(k j:κ)(y:V):valV (putK kvs k y) j=if j=k then some y else valV kvs j:=by
 unfold putK;by_cases a:(kvs.any λkv=>decide (kv.1=k))=true
 ·rw [if_pos a,valV_map];rw [j0] at a;by_cases e:j=k
  ·obtain⟨x,O⟩:=Option.isSome_iff_exists.mp a;rw [if_pos e,e,O,Option.map_some,if_pos rfl]
  ·rw [if_neg e];cases valV kvs j with
   |none=>rfl
   |some x=>rw [Option.map_some,if_neg e]
 ·rw [if_neg a];refine valV_snoc k j y kvs ?_;rw [j0] at a;cases q:valV kvs k with
  |none=>rfl
  |some x=>rw [q] at a;exact(a rfl).elim
theorem yy (kvs:oj (κ×V))(k:κ)(v:V):(putK kvs k v).length<=kvs.length+1:=by
 unfold putK;split
 ·rw [u9];omega
 ·rw [uD,ui,List.length_nil];omega
theorem putK_new {kvs:oj (κ×V)}{k:κ}(v:V)(h:valV kvs k=none):putK kvs k v=kvs++ [(k,v)]:=by
 unfold putK;rw [j0,h];exact if_neg (by decide)
theorem RelO.isSome_eq {o:om V}{u:om o6}(r:RelO o u):o.isSome=u.isSome:=by
 cases o with
 |none=>cases u with
  |none=>rfl
  |some _=>exact(show False from r).elim
 |some _=>cases u with
  |none=>exact(show False from r).elim
  |some _=>rfl
theorem RelO.getD {o:om V}{u:om o6}{d:V}{d':o6}(r:RelO o u)(O:RelV d d'):RelV (o.getD d) (u.getD d'):=by
 cases o with
 |none=>cases u with
  |none=>exact O
  |some _=>exact(show False from r).elim
 |some _=>cases u with
  |none=>exact(show False from r).elim
  |some _=>exact r
theorem KV.val {kvs:oj (κ×V)}{vs:oj (κ×o6)}(r:KV kvs vs)(k:κ):RelO (valV kvs k) (valueAt vs k):=by
 unfold KV at r
 induction r with
 |nil=>exact True.intro
 | @cons p q ps qs h t ih=>
  obtain⟨h1,h2⟩:=h;by_cases e:p.1=k
  ·have O:q.1=k:=h1.symm.trans e;have b:valueAt (q::qs) k=some q.2:=by simp [valueAt,uV,O]
   rw [QG e,b];exact h2
  ·have O:¬q.1=k:=λz=>e (h1.trans z);have b:valueAt (q::qs) k=valueAt qs k:=by simp [valueAt,uV,O]
   rw [Qw e,b];exact ih
theorem KV.any {kvs:oj (κ×V)}{vs:oj (κ×o6)}(r:KV kvs vs)(k:κ):(kvs.any λkv=>decide (kv.1=k))=vs.any λkv=>decide (kv.1=k):=by
 unfold KV at r
 induction r with
 |nil=>rfl
 |cons h t O=>rw [Ug,Ug,O,h.1]
theorem KV.repl {kvs:oj (κ×V)}{vs:oj (κ×o6)}(r:KV kvs vs)(k:κ){y:V}{u:o6}(O:RelV y u):
  KV (kvs.map λkv=>if kv.1=k then(kv.1,y) else kv) (vs.map λkv=>if kv.1=k then(kv.1,u) else kv):=by
 unfold KV at r⊢
 induction r with
 |nil=>exact .nil
 | @cons p q ps qs h t ih=>
  rw [uq,uq];refine .cons ?_ ih;obtain⟨h1,h2⟩:=h;by_cases e:p.1=k
  ·rw [if_pos e,if_pos (h1.symm.trans e)];exact⟨h1,O⟩
  ·rw [if_neg e,if_neg (λz=>e (h1.trans z))];exact⟨h1,h2⟩
theorem KV.put {kvs:oj (κ×V)}{vs:oj (κ×o6)}(r:KV kvs vs)(k:κ){y:V}{u:o6}(O:RelV y u):KV (putK kvs k y) (stored vs k u):=by
 unfold putK stored;rw [r.any k];by_cases e:(vs.any λkv=>decide (kv.1=k))=true
 ·rw [if_pos e,if_pos e];exact r.repl k O
 ·rw [if_neg e,if_neg e];exact Paired.snoc r ⟨1,O⟩
theorem KV.drop {kvs:oj (κ×V)}{vs:oj (κ×o6)}(r:KV kvs vs)(k:κ):KV (jy kvs k) (without vs k):=by
 unfold KV at r⊢;unfold jy without
 induction r with
 |nil=>exact .nil
 | @cons p q ps qs h t ih=>
  obtain⟨h1,h2⟩:=h;rw [vB,vB];by_cases e:p.1=k
  ·have a:¬decide (p.1≠k)=true:=by simp [e]
   have b:¬decide (q.1≠k)=true:=by simp [h1.symm.trans e]
   rw [if_neg a,if_neg b];exact ih
  ·have O:¬q.1=k:=λz=>e (h1.trans z);have a:decide (p.1≠k)=true:=by simp [e]
   have b:decide (q.1≠k)=true:=by simp [O]
   rw [if_pos a,if_pos b];exact .cons ⟨h1,h2⟩ ih
theorem KV.keys {kvs:oj (κ×V)}{vs:oj (κ×o6)}(r:KV kvs vs):kvs.map (·.1)=vs.map (·.1):=by
 unfold KV at r
 induction r with
 |nil=>rfl
 |cons h t O=>rw [uq,uq,O,h.1]
theorem KV.length {kvs:oj (κ×V)}{vs:oj (κ×o6)}(r:KV kvs vs):kvs.length=vs.length:=Paired.length r
theorem dropK_le (kvs:oj (κ×V))(k:κ):(jy kvs k).length<=kvs.length:=List.length_filter_le _ _
end
theorem kV_is {P:o9}{w:og}{k:Key}{u:o6}(r:RelV (kV k) u):(Qd P w).is k u=true:=by
 cases k with
 |inl i=>obtain⟨t,e⟩:=(show∃t,u=Value.int i t from r);subst e;exact mixKind_int P w i t
 |inr x=>obtain⟨t,e⟩:=(show∃t,u=Value.str x t from r);subst e;exact ZH P w x t
theorem items_are {P:o9}{w:og}:∀{ks:oj Key}{us:oj o6},Vals (ks.map kV) us->ItemsAre (Qd P w) ks us
 | [],_,r=>by rw [Uf] at r;cases r;exact .nil
 |k::ks,_,r=>by
  rw [uq] at r;cases r with
  |cons h t=>exact .cons (kV_is h) (items_are t)
abbrev KT (H:Hp):oj (oj Key×V)->oj (oj Key×o3×o6)->Prop:=Paired λp q=>p.1=q.1/\H q.2.1=some (.tup (p.1.map kV))/\RelV p.2 q.2.2
theorem KT.val {H:Hp}{kvs:oj (oj Key×V)}{xs:oj (oj Key×o3×o6)}(r:KT H kvs xs)(k:oj Key):RelO (valV kvs k) ((atKey xs k).map (·.2)):=by
 induction r with
 |nil=>exact True.intro
 | @cons p q ps qs h t ih=>
  obtain⟨h1,_,h2⟩:=h;by_cases e:p.1=k
  ·have O:q.1=k:=h1.symm.trans e;have b:atKey (q::qs) k=some q.2:=by simp [atKey,uV,O]
   rw [QG e,b];exact h2
  ·have O:¬q.1=k:=λz=>e (h1.trans z);have b:atKey (q::qs) k=atKey qs k:=by simp [atKey,uV,O]
   rw [Qw e,b];exact ih
theorem KT.repl {H:Hp}{kvs:oj (oj Key×V)}{xs:oj (oj Key×o3×o6)}(r:KT H kvs xs)(k:oj Key){y:V}{u:o6}(O:RelV y u):
  KT H (kvs.map λkv=>if kv.1=k then(kv.1,y) else kv) (xs.map (putAt k u)):=by
 induction r with
 |nil=>exact .nil
 | @cons p q ps qs h t ih=>
  rw [uq,uq];refine .cons ?_ ih;obtain⟨h1,h2,U⟩:=h;unfold putAt;by_cases e:p.1=k
  ·rw [if_pos e,if_pos (h1.symm.trans e)];exact⟨h1,h2,O⟩
  ·rw [if_neg e,if_neg (λz=>e (h1.trans z))];exact⟨h1,h2,U⟩
theorem KT.put {H:Hp}{kvs:oj (oj Key×V)}{xs:oj (oj Key×o3×o6)}(r:KT H kvs xs)(k:oj Key){b:o3}{y:V}{u:o6}(U:H b=some (.tup (k.map kV)))(O:RelV y u):
  KT H (putK kvs k y) (storedH xs k b u):=by
 have e:(kvs.any λkv=>decide (kv.1=k))=(atKey xs k).isSome:=by
  rw [j0,(r.val k).isSome_eq,Option.isSome_map]
 unfold putK storedH;rw [e];by_cases q:(atKey xs k).isSome=true
 ·rw [if_pos q,if_pos q];exact r.repl k O
 ·rw [if_neg q,if_neg q];exact Paired.snoc r ⟨1,U,O⟩
theorem KT.keeps {H H':Hp}{kvs:oj (oj Key×V)}{xs:oj (oj Key×o3×o6)}(r:KT H kvs xs)(O:∀b ys,H b=some (.tup ys)->H' b=some (.tup ys)):KT H' kvs xs:=
 Paired.mapP r λ_ _ z=>⟨z.1,O _ _ z.2.1,z.2.2⟩
section
variable {P:o9}{w:og}{H:Hp}{h:o8}{a:o3}
theorem rd_of {u:HO}(ok:HOk P w H h)(e:Rd H a u):QJ P w H h a u:=e.ok ok
theorem zo {kvs:oj (Key×V)}(ok:HOk P w H h)(e:Rd H a (.dK kvs)):kvs.length<=sizeLine/\(a==sysModules)=false/\∃vs,KV kvs vs/\h.DictOf (Qd P w) a vs:=
 show QJ P w H h a (.dK kvs) from rd_of ok e
theorem dk_of {kvs:oj (Key×V)}(ok:HOk P w H h)(e:H a=some (.dK kvs)):kvs.length<=sizeLine/\(a==sysModules)=false/\∃vs,KV kvs vs/\h.DictOf (Qd P w) a vs:=zo ok (.inl e)
theorem wk {ks:oj Key}(ok:HOk P w H h)(e:H a=some (.tup (ks.map kV))):(tupleKind (Qd P w)).is h ks a:=by
 obtain⟨_,its,r,o,h1,h2,n,O⟩:=(show QJ P w H h a (.tup (ks.map kV)) from ok a _ e)
 exact⟨o,its.toArray,n,h1,h2,O,by simpa using items_are r⟩
theorem dt_rd {kvs:oj (oj Key×V)}(ok:HOk P w H h)(e:Rd H a (.dT kvs)):kvs.length<=sizeLine/\(a==sysModules)=false/\
  ∃xs,KT H kvs xs/\h.DictOfH (tupleKind (Qd P w)) a xs:=by
 obtain⟨z,y,xs,r,o,es,ep,h1,h2,U,h4,h5⟩:=(show QJ P w H h a (.dT kvs) from rd_of ok e)
 refine⟨z,y,xs,r,o,es,ep,h1,h2,U,h4,λx O=> ?_,h5⟩;have all:∀{l:oj (oj Key×V)}{m:oj (oj Key×o3×o6)},KT H l m->∀x∈m,(tupleKind (Qd P w)).is h x.1 x.2.1:=by
  intro l m q
  induction q with
  |nil=>intro x O;exact nomatch O
  | @cons p q ps qs hq t ih=>
   intro x O;rcases List.mem_cons.mp O with e|O
   ·subst e;exact wk ok (by rw [<-hq.1];exact hq.2.1)
   ·exact ih x O
 exact all r x O
theorem dt_of {kvs:oj (oj Key×V)}(ok:HOk P w H h)(e:H a=some (.dT kvs)):kvs.length<=sizeLine/\(a==sysModules)=false/\
  ∃xs,KT H kvs xs/\h.DictOfH (tupleKind (Qd P w)) a xs:=dt_rd ok (.inl e)
end
def DGet (H:Hp)(a:o3)(y:V)(r:om V):Prop:=
 (∃kvs k,Rd H a (.dK kvs)/\y=kV k/\r=valV kvs k)∨∃kvs k b,Rd H a (.dT kvs)/\y= .ref b/\H b=some (.tup (k.map kV))/\r=valV kvs k
def DPut (H:Hp)(a:o3)(y v:V)(H':Hp):Prop:=
 (∃kvs k,H a=some (.dK kvs)/\y=kV k/\kvs.length<sizeLine/\H'=upd H a (.dK (putK kvs k v)))∨
 ∃kvs k b,H a=some (.dT kvs)/\y= .ref b/\H b=some (.tup (k.map kV))/\kvs.length<sizeLine/\H'=upd H a (.dT (putK kvs k v))
theorem DGet.k {H:Hp}{a:o3}{kvs:oj (Key×V)}{k:Key}(e:H a=some (.dK kvs)):DGet H a (kV k) (valV kvs k):= .inl ⟨kvs,k,.inl e,1,1⟩
theorem DPut.k {H:Hp}{a:o3}{kvs:oj (Key×V)}{k:Key}{v:V}(e:H a=some (.dK kvs))(O:kvs.length<sizeLine):DPut H a (kV k) v (upd H a (.dK (putK kvs k v))):= .inl ⟨kvs,k,e,1,O,1⟩
section
variable {X:Cx}{oq:oj (o3×Obj)}{σ:St}{H:Hp}{s:o7}{a:o3}{y v:V}{u r:o6}{o:om V}{A:oh}{E:o6->o7->Prop}
theorem Inv.big (I:Inv X oq σ H s):sysModules<s.heap.objs.size:=by
 have h:mainGlobals<s.heap.objs.size:=(I.mod.glob.keeps I.bk).lt;exact Nat.lt_trans (by decide) h
theorem d_getItem {Q:o6->o7->Prop}(hu:A.units+1<cLine)(I:Inv X oq σ H s)(g:DGet H a y (some v))(ry:RelV y u)(h:∀U s',Inv X oq σ H s'->RelV v U->Q U s'):
  wpAny (model X.prog X.w) A (getItem (.ref a) u) Q E s:=by
 rcases g with⟨kvs,k,e,ey,l⟩|⟨kvs,k,b,e,ey,eb,l⟩
 ·subst ey;obtain⟨z,hd,vs,rel,dd⟩:=zo I.hok e;obtain⟨U,hw,O⟩:=RelO.some_of (v:=v) (o:=valueAt vs k) (by rw [l];exact rel.val k)
  exact wpAny_getItem_of (kV_is ry) dd.mapOf hw (h U _ (I.tok _) O)
 ·subst ey;cases(show u=Value.ref b from ry)
  obtain⟨z,hd,xs,rel,dd⟩:=dt_rd I.hok e;obtain⟨U,hw,O⟩:=RelO.some_of (v:=v) (o:=(atKey xs k).map (·.2)) (by rw [l];exact rel.val k)
  obtain⟨p,hp,aa⟩:=Option.map_eq_some_iff.mp hw;refine wpAny_getItem_heap (U7 hu) (wk I.hok eb) dd hp ?_;rw [aa];exact h U _ (I.tok _) O
theorem d_in {Q:o6->o7->Prop}(hu:A.units+1<cLine)(I:Inv X oq σ H s)(g:DGet H a y o)(U:RelV y u)(h:∀s',Inv X oq σ H s'->Q (.bool o.isSome) s'):
  wpAny (model X.prog X.w) A (compareOp .In u (.ref a)) Q E s:=by
 rcases g with⟨kvs,k,e,O,l⟩|⟨kvs,k,b,e,O,eb,l⟩
 ·subst O;obtain⟨z,hd,vs,rel,dd⟩:=zo I.hok e;refine wpAny_in_of (kV_is U) hd dd.mapOf ?_;rw [<-(rel.val k).isSome_eq,<-l];exact h _ (I.tok _)
 ·subst O;cases(show u=Value.ref b from U)
  obtain⟨z,hd,xs,rel,dd⟩:=dt_rd I.hok e;refine wpAny_in_heap (U7 hu) (wk I.hok eb) hd dd ?_;have q:=(rel.val k).isSome_eq;rw [Option.isSome_map] at q;rw [<-q,<-l];exact h _ (I.tok _)
theorem d_notIn {Q:o6->o7->Prop}(hu:A.units+1<cLine)(I:Inv X oq σ H s)(g:DGet H a y o)(U:RelV y u)(h:∀s',Inv X oq σ H s'->Q (.bool (!o.isSome)) s'):
  wpAny (model X.prog X.w) A (compareOp .NotIn u (.ref a)) Q E s:=by
 rcases g with⟨kvs,k,e,O,l⟩|⟨kvs,k,b,e,O,eb,l⟩
 ·subst O;obtain⟨z,hd,vs,rel,dd⟩:=zo I.hok e;refine wpAny_notIn_of (kV_is U) hd dd.mapOf ?_;rw [<-(rel.val k).isSome_eq,<-l];exact h _ (I.tok _)
 ·subst O;cases(show u=Value.ref b from U)
  obtain⟨z,hd,xs,rel,dd⟩:=dt_rd I.hok e;refine wpAny_notIn_heap (U7 hu) (wk I.hok eb) hd dd ?_;have q:=(rel.val k).isSome_eq;rw [Option.isSome_map] at q;rw [<-q,<-l];exact h _ (I.tok _)
theorem d_write {h':o8}{t':Nat}{ob:HO}(I:Inv X oq σ H s)(mu:Mut (H a))(O:Heap.SameBut a s.heap h')(U:∃q,h'.get? a=some q)(new:QJ X.prog X.w (upd H a ob) h' a ob)(ht:0<t':=by ac_rfl):
  Inv X oq σ (upd H a ob) {s with heap:=h',toks:=t'}:=
 I.write (x:=a) (e:=a) mu (.inl rfl) (λb q hb z=>(O.2 b hb).trans z) U new
theorem wW {P:o9}{w:og}{H':Hp}{h':o8}{kvs:oj (Key×V)}{vs:oj (Key×o6)}(z:kvs.length<=sizeLine)(hd:(a==sysModules)=false)(rel:KV kvs vs)(dd:h'.DictOf (Qd P w) a vs):
  QJ P w H' h' a (.dK kvs):=⟨z,hd,vs,rel,dd⟩
theorem d_setItem {H':Hp}{Q:Unit->o7->Prop}(hu:A.units+1<cLine)(I:Inv X oq σ H s)(g:DPut H a y v H')(ry:RelV y u)(rv:RelV v r)(h:∀s',Inv X oq σ H' s'->Q Unit.unit s'):
  wpAny (model X.prog X.w) A (setItem (.ref a) u r) Q E s:=by
 rcases g with⟨kvs,k,e,ey,l,eH⟩|⟨kvs,k,b,e,ey,eb,l,eH⟩
 ·subst ey eH;obtain⟨z,hd,vs,rel,dd⟩:=dk_of I.hok e;have hz:vs.length<=sizeLine:=by rw [<-rel.length];exact z
  have hl:(putK kvs k v).length<=sizeLine:=by have:=yy kvs k v;omega
  refine wpAny_setItem_pairs (hsz:=hz) (kV_is ry) dd λh' O hs=>h _ ?_;have he:∃q,h'.get? a=some q:=let⟨q,_,_,U,_⟩:=O;⟨q,U⟩;exact d_write I (by rw [e];exact True.intro) hs he (wW hl hd (rel.put k rv) O)
 ·subst ey eH;cases(show u=Value.ref b from ry)
  obtain⟨z,hd,xs,rel,dd⟩:=dt_of I.hok e;have hz:xs.length<=sizeLine:=by rw [<-Paired.length rel];exact z
  have hl:(putK kvs k v).length<=sizeLine:=by have:=yy kvs k v;omega
  refine wpAny_setItem_heap (hsz:=hz) (U7 hu) (wk I.hok eb) dd λh' O hs=>h _ ?_;obtain⟨q,es,ep,U,h2,h3,h4,_,h5⟩:=O;refine d_write I (by rw [e];exact True.intro) hs ⟨q,U⟩ ⟨hl,hd,_,(rel.put k eb rv).keeps λc ys ec=> ?_,q,es,ep,U,h2,h3,h4,h5⟩
  rw [qh (ne_of ec e (λz=>nomatch z))];exact ec
end
section
variable {X:Cx}{oq:oj (o3×Obj)}{σ:St}{H:Hp}{s:o7}{a:o3}{kvs:oj (Key×V)}{k:Key}{u:o6}{A:oh}{E:o6->o7->Prop}
theorem d_pop {v:V}{more:oj o6}{Q:o6->o7->Prop}(I:Inv X oq σ H s)(e:H a=some (.dK kvs))(ry:RelV (kV k) u)(l:valV kvs k=some v)(hm:more= []∨∃x,more= [x])
  (h:∀O s',Inv X oq σ (upd H a (.dK (jy kvs k))) s'->RelV v O->Q O s'):wpAny (model X.prog X.w) A (call (.builtin "dict.pop") (.ref a::u::more)) Q E s:=by
 obtain⟨z,hd,vs,rel,dd⟩:=dk_of I.hok e;obtain⟨O,hw,aa⟩:=RelO.some_of (v:=v) (o:=valueAt vs k) (by rw [<-l];exact rel.val k)
 have hp:(keyPart u).isSome=true:=by
  cases k with
  |inl i=>obtain⟨t,q⟩:=(show∃t,u=Value.int i t from ry);subst q;rfl
  |inr x=>obtain⟨t,q⟩:=(show∃t,u=Value.str x t from ry);subst q;rfl
 have ha:argsOk "dict.pop" ⟨.ref a::u::more,[]⟩:=by
  rcases hm with q|⟨x,q⟩
  ·subst q;exact PySem.F.args_dict_pop_2 _ _
  ·subst q;exact PySem.F.args_dict_pop_3 _ _ _
 refine call_meetsIn PySem.F.slot_dict_pop dd.typeIs PySem.F.entry_dict_pop ha (meets_dict_pop_there (Qd X.prog X.w) a (kV_is ry) more hm hp)
  ⟨vs,O,dd,by rw [<-rel.length];exact z,hw,λh' U hs=>h O _ ?_ aa⟩
 have he:∃q,h'.get? a=some q:=let⟨q,_,_,hq,_⟩:=U;⟨q,hq⟩;exact d_write I (by rw [e];exact True.intro) hs he (wW (uQ (dropK_le kvs k) z) hd (rel.drop k) U)
theorem d_len {Q:o6->o7->Prop}(I:Inv X oq σ H s)(e:Rd H a (.dK kvs))(h:∀t s',Inv X oq σ H s'->Q (.int kvs.length t) s'):wpAny (model X.prog X.w) A (call (.builtin "len") [.ref a]) Q E s:=by
 obtain⟨z,hd,vs,rel,dd⟩:=zo I.hok e;refine call_len_dict hd dd (by rw [<-rel.length];rw [uA] at z;omega) ?_
 rw [<-rel.length];exact h _ _ (I.tok _)
end
def NoSl (i:Expr):Prop:=∀ov iv,subscripted i false ov iv=operate [ov,iv] (getItem ov iv)
theorem subD_of {prog:o9}{w:og}{A:oh}{E:o6->o7->Prop}{s:o7}{env:Env}{value O:Expr}{pos:Pos}{T id:String}{Q:o6->o7->Prop}
  (hl:typeLookup (.type T) "__getitem__"=pure (some (.builtin id))) (hs:NoSl O)
  (h:wpAny (model prog w) A (eval value env) (λo s₁=>wpAny (model prog w) A (eval O env) (λi U=>U.TypeIs o T/\wpAny (model prog w) A (getItem o i) Q E U) E s₁) E s):
  wpAny (model prog w) A (eval (.Subscript value O pos) env) Q E s:=by
 refine Subscript_ (vg h (λo s₁ h₁=>vg h₁ (λi U h₂=> ?_) λ_ _ x=>x) λ_ _ x=>x);obtain⟨hT,h₂⟩:=h₂;unfold subscriptTail;refine wpAny_bind ?_;rw [getitemInPython_of_ne hT.not_modules];refine wpAny_bind (wpAny_specialOf hT hl ?_);have fin:wpAny (model prog w) A (subscripted O false o i) (λr s₃=>wpAny (model prog w) A (letTemporaryGo value o r>>=λ_=>pure r) Q E s₃) E U:=by
  rw [hs o i];exact wpAny_operating (vg h₂ (λr s₃ h₃=>wpAny_bind (wpAny_letTemporaryGo (um h₃))) λ_ _ x=>x)
 first
  |exact um (wpAny_bind fin)
  |exact wpAny_bind (um (wpAny_bind fin))
  |exact wpAny_bind fin
theorem dict_typeIs {X:Cx}{oq:oj (o3×Obj)}{σ:St}{H:Hp}{s:o7}{a:o3}{y:V}{o:om V}(I:Inv X oq σ H s)(g:DGet H a y o):s.TypeIs (.ref a) "dict":=by
 rcases g with⟨kvs,k,e,_,_⟩|⟨kvs,k,b,e,_,_,_⟩
 ·obtain⟨_,_,vs,_,dd⟩:=zo I.hok e;exact dd.typeIs
 ·obtain⟨_,_,xs,_,dd⟩:=dt_rd I.hok e;exact dd.typeIs
theorem dict_noDict {X:Cx}{oq:oj (o3×Obj)}{σ:St}{H:Hp}{s:o7}{a:o3}{y:V}{o:om V}(I:Inv X oq σ H s)(g:DGet H a y o):
  ∀b,Value.ref a= .ref b->∃ob,s.heap.get? b=some ob/\ob.dict=none:=λb q=>by
 cases q;rcases g with⟨kvs,k,e,_,_⟩|⟨kvs,k,b,e,_,_,_⟩
 ·obtain⟨_,_,vs,_,ob,_,_,h1,h2,_⟩:=zo I.hok e;exact⟨ob,h1,h2.2.1⟩
 ·obtain⟨_,_,xs,_,ob,_,_,h1,h2,_⟩:=dt_rd I.hok e;exact⟨ob,h1,h2.2.1⟩
def tDGet (td ty:TE):TE:=λσ H Q=>td σ H λx H1=>ty σ H1 λy H2=>∃a v,x= .ref a/\DGet H2 a y (some v)/\Q v H2
def tDIn (ty td:TE):TE:=λσ H Q=>ty σ H λy H1=>td σ H1 λx H2=>∃a o,x= .ref a/\DGet H2 a y o/\Q (.bl o.isSome) H2
def tDNotIn (ty td:TE):TE:=λσ H Q=>ty σ H λy H1=>td σ H1 λx H2=>∃a o,x= .ref a/\DGet H2 a y o/\Q (.bl (!o.isSome)) H2
def sDPut (td ty tv:TE):TS:=λD σ H=>tv σ H λv H1=>td σ H1 λx H2=>ty σ H2 λy H3=>∃a H4,x= .ref a/\DPut H3 a y v H4/\D.nx σ H4
section
variable {X:Cx}{o i e value:Expr}{pos pos' tpos:Pos}{td ty tv:TE}
theorem QA (hu:X.A.units+1<cLine)(ho:PE X o td)(hi:PE X i ty)(hs:NoSl i):PE X (.Subscript o i pos) (tDGet td ty):=by
 intro oq s σ H Q I h;refine subD_of PySem.F.slot_dict_getitem.lookup hs (thn (ho oq s σ H _ I h) λu s1 ⟨x,H1,I1,rx,q1⟩=>thn (hi oq s1 σ H1 _ I1 q1) λiv s2 ⟨y,H2,U,ry,a,v,ex,g,q2⟩=> ?_);subst ex;obtain rfl:u=Value.ref a:=rx;exact⟨dict_typeIs U g,d_getItem hu U g ry λw' s3 I3 O=>⟨v,H2,I3,O,q2⟩⟩
theorem pc_din (O:X.A.units+1<cLine)(hi:PE X i ty)(U:PE X o td):PC X .In i o (tDIn ty td):=by
 intro oq s σ H Q I h;refine thn (hi oq s σ H _ I h) λiv s1 ⟨y,H1,I1,ry,q1⟩=>thn (U oq s1 σ H1 _ I1 q1) λu s2 ⟨x,H2,I2,rx,a,ov,ex,g,q2⟩=> ?_;subst ex;obtain rfl:u=Value.ref a:=rx;exact d_in O I2 g ry λs3 I3=>⟨.bl ov.isSome,H2,I3,1,q2⟩
theorem pc_dnotin (O:X.A.units+1<cLine)(hi:PE X i ty)(U:PE X o td):PC X .NotIn i o (tDNotIn ty td):=by
 intro oq s σ H Q I h;refine thn (hi oq s σ H _ I h) λiv s1 ⟨y,H1,I1,ry,q1⟩=>thn (U oq s1 σ H1 _ I1 q1) λu s2 ⟨x,H2,I2,rx,a,ov,ex,g,q2⟩=> ?_;subst ex;obtain rfl:u=Value.ref a:=rx;exact d_notIn O I2 g ry λs3 I3=>⟨.bl (!ov.isSome),H2,I3,1,q2⟩
theorem xa (O:X.A.units+1<cLine)(U:PE X o td)(hi:PE X i ty)(hv:PE X value tv)(hs:swapsWith value (some (.Subscript o i pos')) pos.line X.env=pure false):
  PS X (.Assign [.Subscript o i pos'] value pos) (sDPut td ty tv):=by
 intro oq s σ H D I h;refine wpAny_Assign_Subscript (thn (hv oq s σ H _ I h) λr s1 ⟨v,H1,I1,rv,q1⟩=>thn (U oq s1 σ H1 _ I1 q1) λu s2 ⟨x,H2,I2,rx,q2⟩=>thn (hi oq s2 σ H2 _ I2 q2) λiv s3 ⟨y,H3,I3,ry,a,H4,ex,g,q3⟩=> ?_) hs;subst ex;obtain rfl:u=Value.ref a:=rx;exact d_setItem O I3 g ry rv λs4 I4=>⟨σ,H4,I4,q3⟩
end
theorem dk_empty {P:o9}{w:og}{H:Hp}(h:o8)(O:sysModules<h.objs.size):QJ P w H (h.push {cls:= .type "dict",data:= .dict #[]}) h.objs.size (.dK []):=
 ⟨uW _,beq_eq_false_iff_ne.mpr (U0 (uI O)),[],.nil,Heap.DictOf.new h⟩
def tDNewK:TE:=λ_ H Q=>∀p,H p=none->Q (.ref p) (upd H p (.dK []))
section
variable {X:Cx}{pos:Pos}
theorem zy:PE X (.Dict [] [] pos) tDNewK:=λoq s σ H Q I h=>
 wpAny_Dict_empty ⟨.ref s.heap.objs.size,_,I.laid (a:=s.heap.objs.size) (o:= .dK []) (t':=s.toks) (λ_ _ q=>ua _ q) (ug _) (dk_empty s.heap I.big),1,h _ (I.hok.fresh (ug _))⟩
end
structure M1 (X:Cx)(o:Expr)(m:Str)(apos:Pos)(e:Expr)(cpos:Pos):Prop where
 base:attributeBase o m X.env (eval o X.env)=eval o X.env
 few:((backTo cpos (starEach [e] X.env)).all (λx=> !x.1)&&(backToKw cpos (keywordEach [] X.env)).all (λx=>x.1.isSome)
  &&decide (([e]:oj Expr).length+([]:oj Keyword).length+(if([]:oj Keyword).isEmpty then 0 else 1)<30))=true
 line:(apos.endLine==cpos.line)=true
 trees:backTo cpos (starEach [e] X.env)= [(false,eval e X.env)]
def IsD (H:Hp)(a:o3):Prop:=(∃kvs,Rd H a (.dK kvs))∨∃kvs,Rd H a (.dT kvs)
theorem isD_at {X:Cx}{oq:oj (o3×Obj)}{σ:St}{H:Hp}{s:o7}{a:o3}(I:Inv X oq σ H s)(d:IsD H a):
  s.TypeIs (.ref a) "dict"/\(∀b,Value.ref a= .ref b->∃ob,s.heap.get? b=some ob/\ob.dict=none)/\(a==sysModules)=false:=by
 rcases d with⟨kvs,e⟩|⟨kvs,e⟩
 ·obtain⟨_,hd,vs,_,dd⟩:=zo I.hok e;refine⟨dd.typeIs,λb q=> ?_,hd⟩;cases q;obtain⟨ob,_,_,h1,h2,_⟩:=dd;exact⟨ob,h1,h2.2.1⟩
 ·obtain⟨_,hd,xs,_,dd⟩:=dt_rd I.hok e;refine⟨dd.typeIs,λb q=> ?_,hd⟩;cases q;obtain⟨ob,_,_,h1,h2,_⟩:=dd;exact⟨ob,h1,h2.2.1⟩
section
variable {X:Cx}{oq:oj (o3×Obj)}{σ:St}{H:Hp}{s:o7}{a:o3}{y d:V}{u r:o6}{o:om V}{A:oh}{E:o6->o7->Prop}
theorem d_get1 {Q:o6->o7->Prop}(hu:A.units+1<cLine)(I:Inv X oq σ H s)(g:DGet H a y o)(U:RelV y u)(h:∀w' s',Inv X oq σ H s'->RelV (o.getD .non) w'->Q w' s'):
  wpAny (model X.prog X.w) A (call (.builtin "dict.get") [.ref a,u]) Q E s:=by
 rcases g with⟨kvs,k,e,O,l⟩|⟨kvs,k,b,e,O,eb,l⟩
 ·subst O;obtain⟨z,hd,vs,rel,dd⟩:=zo I.hok e;refine call_meetsIn PySem.F.slot_dict_get dd.typeIs PySem.F.entry_dict_get (PySem.F.args_dict_get_2 _ _) (meets_dict_get (Qd X.prog X.w) a (kV_is U) hd) ⟨_,dd.mapOf,h _ _ (I.tok _) ?_⟩;rw [l];exact(rel.val k).getD rfl
 ·subst O;cases(show u=Value.ref b from U)
  obtain⟨z,hd,xs,rel,dd⟩:=dt_rd I.hok e;refine call_meetsIn PySem.F.slot_dict_get dd.typeIs PySem.F.entry_dict_get (PySem.F.args_dict_get_2 _ _) (meetsH_dict_get (tupleKind (Qd X.prog X.w)) a b hd) ⟨U7 hu,k,xs,wk I.hok eb,dd,h _ _ (I.tok _) ?_⟩;rw [l];exact(rel.val k).getD rfl
end
def tDGet1 (td ty:TE):TE:=λσ H Q=>td σ H λx H1=>∃a,x= .ref a/\IsD H1 a/\ty σ H1 λy H2=>∃o,DGet H2 a y o/\Q (o.getD .non) H2
def tDPop1 (td ty:TE):TE:=λσ H Q=>td σ H λx H1=>∃a,x= .ref a/\IsD H1 a/\ty σ H1 λy H2=>∃kvs k v,H2 a=some (.dK kvs)/\y=kV k/\valV kvs k=some v/\Q v (upd H2 a (.dK (jy kvs k)))
section
variable {X:Cx}{o e f:Expr}{apos cpos:Pos}{td ty tx:TE}
theorem pe_dget1 (hu:X.A.units+1<cLine)(ho:PE X o td)(he:PE X e ty)(m:M1 X o "get" apos e cpos):PE X (.Call (.Attribute o "get" apos) [e] [] cpos) (tDGet1 td ty):=by
 intro oq s σ H Q I h;refine wpAny_Call_method m.base m.few m.line Ut PySem.F.slot_dict_get PySem.F.type_dict_get (thn (ho oq s σ H _ I h) λu s1 ⟨x,H1,U,rx,a,ex,d,q1⟩=> ?_);subst ex;obtain rfl:u=Value.ref a:=rx;obtain⟨t1,t2,_⟩:=isD_at U d;refine⟨t1,t2,?_⟩;rw [m.trees];refine vF rfl (Uj (Calls.spliced_cons (thn (he oq s1 σ H1 _ U q1) λiv s2 ⟨y,H2,I2,ry,ov,g,q2⟩=>Calls.spliced_nil ?_)));exact d_get1 hu I2 g ry λw' s3 I3 O=>⟨_,H2,I3,O,q2⟩
theorem pe_dpop1 (ho:PE X o td)(he:PE X e ty)(m:M1 X o "pop" apos e cpos):PE X (.Call (.Attribute o "pop" apos) [e] [] cpos) (tDPop1 td ty):=by
 intro oq s σ H Q I h;refine wpAny_Call_method m.base m.few m.line Ut PySem.F.slot_dict_pop PySem.F.type_dict_pop (thn (ho oq s σ H _ I h) λu s1 ⟨x,H1,U,rx,a,ex,d,q1⟩=> ?_);subst ex;obtain rfl:u=Value.ref a:=rx;obtain⟨t1,t2,_⟩:=isD_at U d;refine⟨t1,t2,?_⟩;rw [m.trees];refine vF rfl (Uj (Calls.spliced_cons (thn (he oq s1 σ H1 _ U q1) λiv s2 ⟨y,H2,I2,ry,kvs,k,v,ea,ey,l,q2⟩=>Calls.spliced_nil ?_)));subst ey;exact d_pop I2 ea ry l (.inl rfl) λw' s3 I3 O=>⟨v,_,I3,O,q2⟩
end
end L2
namespace Att
open PySem PySem.W PySem.Calls PyProof.Rows
theorem ZL {P:Params}{h:o8}:∀(ns:oj Int) (vs:oj o6),WellAll P h vs (ns.map WData.int)->IntsAre vs ns:=by
 intro ns
 induction ns with
 |nil=>
  intro vs w;rw [Uf] at w;cases w;exact .nil
 |cons n ns O=>
  intro vs w;rw [uq] at w;cases w with
  |cons a b=>
   cases a;exact .cons _ _ (O _ b)
theorem script_of {l:OpenLaw}{n:Nat}(hn:l.most=some n){P:Params}{h:o8}{args:oj WData}{O:oj o6}
  (U:l.row.toRowW.claim.pre args=true) (ad:WellAll P h O args):
  ∃a vs ns,O= [Value.ref a]/\args= [WData.list (ns.map WData.int)]/\h.get? a=some {cls:= .type "list",data:= .seq vs.toArray}/\IntsAre vs ns/\ns.length<=n:=by
 have ae:WShape.hasAll [] args [.list .int]=true:=(pre_splitW U).1;have hc:l.pre.holds [] {args:=args}=true:=(pre_splitW U).2;obtain⟨d,r,rfl,h1,h2⟩:=hasAllW_cons ae;obtain rfl:=hasAllW_nil h2;obtain⟨xs,rfl,h3⟩:=hasW_list h1;obtain⟨ns,rfl⟩:=items_int h3;have aa:ns.length<=n:=by
  unfold OpenLaw.pre at hc;have h4:(WTm.not (.lt (.lit (.int (n:Int))) (.len (.arg 0)))).holds [] {args:= [.list (ns.map .int)]}=true:=by
   have h4:=(holds_andW hc).1;rw [hn] at h4;exact h4
  have h5:=condW_of h4 (w_not (w_lt w_lit (w_len_list (w_arg rfl))));rw [u9] at h5;refine Nat.le_of_not_lt λq=> ?_;have q':(n:Int)<((ns.length:Nat):Int):=by omega
  first
   |(rw [uc q'] at h5;exact absurd h5 (by decide))
   |(simp at h5;omega)
 cases ad with
 |cons w1 w2=>
  cases w2;cases w1 with
  |list ho ac=>exact⟨_,_,ns,1,1,ho,ZL ns _ ac,aa⟩
theorem post_true (l:OpenLaw)(args:oj WData):l.row.toRowW.claim.post args (.bool true) args=true:=
 postW_of (r:=l.row.toRowW) (X:=(true==true))
  (show WShape.has [] (.bool true) .bool=true by first|rfl|decide|simp [WShape.has,WShape.arms,WShape.armsAll])
  (show(WTm.eq .res (.lit (.bool true))).value [] {args:=args,res:=some (.bool true),after:=args}=some (.bool (true==true)) from w_eq_bool (w_res rfl) w_lit) rfl
theorem attach_call {l:OpenLaw}{n:Nat}{q:o9}{O:oj Str}{XP:(Str->om o6)->o8->Prop}{YP:og->o8->Prop}{d:DefRec}
  (hn:l.most=some n) (ae:d.params.defaults= [])
  (call:∀(w:og) (s₀ U:o7) (mg mb:Str->om o6) (fa:o3) (o:Obj) (pm cd doc:o6) (a:o3) (vs:oj o6) (ns:oj Int),
   Ground q O [] XP w s₀ mg mb U.heap->YP w U.heap->
   U.heap.get? fa=some o->o.data= .func (docDef d.name d.params d.body d.scope pm cd doc)->U.heap.CodeRec cd d.name->mg d.name=some (.ref fa)->
   U.heap.get? a=some {cls:= .type "list",data:= .seq vs.toArray}->IntsAre vs ns->ns.length<=n->U.gens= #[]->
   codeAny (model l.prog w) callerA (.call (.ref fa) ⟨[.ref a],[]⟩) (λr s'=>r= .ok (.ret (.bool true))/\OldK U.heap s'.heap/\s'.os=U.os/\AllBare s'.gens) U):
  WalkO q O XP YP l.row.toRowW d [] (λf vs=>PySem.call f vs):=by
 intro w s₀ U mg mb G Y fa o pm cd doc dV kV ho hd af hD ag hg args ah as hpre hlay hrd hwl hlo;obtain rfl:dV= .none:=Dflts.none hD ae;obtain rfl:kV= .none:=Dflts.noKw hD;obtain⟨a,vs,ns,rfl,rfl,ac,aa,ad⟩:=script_of hn hpre hwl;refine enter_call (codeAny_mono (call w s₀ U mg mb fa o pm cd doc a vs ns G Y ho (fd_plain hd) af ag ac aa ad hg) λr s' hq=> ?_);obtain⟨rfl,h2,h3,h4⟩:=hq;exact⟨.inl ⟨.bool true,.bool true,[],1,λ_=>rfl,.bool true,post_true l _,λ_=>⟨List.Pairwise.nil,λ_ hm=>(nomatch hm)⟩⟩,h2,h3,h4⟩
end Att
namespace L2
open PySem PySem.Spec PyProof.Rows
theorem vals_ints:∀{vs:oj o6}{ns:oj Int},IntsAre vs ns->Vals (ns.map V.int) vs
 |_,_,.nil=> .nil
 |_,_,.cons n t h=> .cons ⟨t,1⟩ (vals_ints h)
def Only (H:Hp):Prop:=∀b,H b=none∨∃o xs,H b=some (.frz o (.lst xs))
theorem law_call {P:o9}{w:og}{K:o0}{mg mb:Str->om o6}{CX:CXT}{k:Nat}{fa a:o3}{fd:FuncData}{x:Str}{sp:Sp}{O:o7}{vs:oj o6}{ns:oj Int}
  (KX:K.In O.heap) (ae:O.heap.Ns mainGlobals mg) (hb:O.heap.Ns builtinsNs mb) (am:∀x:Str,x≠"__name__"->mb x=bootBuiltins x) (af:O.heap.NoLimit) (hg:O.gens= #[])
  (ha:O.heap.get? a=some {cls:= .type "list",data:= .seq vs.toArray}) (hi:IntsAre vs ns) (hl:ns.length<=sizeLine) (hr:Room k callerA)
  (F:∀base:o8,K.In base->base.Ns mainGlobals mg->FnOk P w K mg base CX k fa fd [x] sp) (ad:∀(s:o7) (u:o6),BindsTo s fd ⟨[u],[]⟩ [(x,u)])
  (ag:fd.scope.names.lookup x=some .local) (ao:∀H:Hp,Only H->SqL K H a (ns.map V.int)->sp [.ref a] H (λv _=>v= .bl true) λ_ _ _=>False)
  (ap:∀H e s',CX [] H O (λ_ _ _=>False) e s'->False):
  codeAny (model P w) callerA (.call (.ref fa) ⟨[.ref a],[]⟩) (λr s'=>r= .ok (.ret (.bool true))/\OldK O.heap s'.heap/\s'.os=O.os/\AllBare s'.gens) O:=by
 have rv:=vals_ints hi;have ah:=hi.length;have ac:∀H:Hp,Only H->SqL K H a (ns.map V.int)->HOk P w H O.heap->(∀b,H b≠none->b=a)->(H a≠none->K.lookup a=none)->
   codeAny (model P w) callerA (.call (.ref fa) ⟨[.ref a],[]⟩) (λr s'=>r= .ok (.ret (.bool true))/\OldK O.heap s'.heap/\s'.os=O.os/\AllBare s'.gens) O:=by
  intro H hO hS hok hA hK;have U:∀{b:o3}{o:Obj},O.heap.get? b=some o->H b=none->(hidT O.heap H).get? b=some o:=λe n=>hidT_get e n;have aq:∀{b:o3}{o:Obj}{es:Array DictEntry}{ep:Nat},O.heap.get? b=some o->o.data= .dict es ep->H b=none:=λ{b o es ep} e d=>by
   cases q:H b with
   |none=>rfl
   |some u=>
    have e':b=a:=hA b (by rw [q];simp)
    subst e';rw [ha] at e;cases e;have d':Data.seq vs.toArray _=Data.dict es ep:=d;cases d'
  have aa:∀{b:o3}{m:Str->om o6},O.heap.Ns b m->(hidT O.heap H).Ns b m:=λ{b m} ⟨o,es,ep,e,d,r⟩=>⟨o,es,ep,U e (aq e d),d,r⟩;have ak:K.In (hidT O.heap H):=λb o e=>U (KX b o e) (by
   cases q:H b with
   |none=>rfl
   |some u=>
    have e':b=a:=hA b (by rw [q];simp)
    subst e';rw [hK (by rw [q];simp)] at e;cases e)
  have hM:Mod K mg (hidT O.heap H):=⟨ak,aa ae,⟨mb,aa hb,am⟩,let⟨mc,h1,h2⟩:=af;⟨mc,aa h1,h2⟩⟩;have e0:Env0 P w K mg (hidT O.heap H) callerA [] O H:=⟨1,hM,λb o e=>of_hidT e,Nat.le_of_eq (hidT_size _ _),trivial,λb hb=>absurd (show b∈([]:oj o3) from hb) (by simp),hok,.of_eq hg⟩
  refine codeAny_mono ((F _ ak (aa ae)).run callerA [] O H ⟨[.ref a],[]⟩ [.ref a] [.ref a] _ _ hr e0 (ad O (.ref a)) (.cons rfl .nil) (ao H hO hS) (.inr ⟨_,0,ag⟩)) λr s' h=> ?_;cases r with
  |error e=>exact(ap H e s' h).elim
  |ok fl=>
   cases fl with
   |next=>exact False.elim h
   |brk=>exact False.elim h
   |cont=>exact False.elim h
   |ret u=>
    obtain⟨v,H',os,bare,htk,un,al,r',q⟩:=h;have q':v= .bl true:=q;subst q';obtain rfl:u=Value.bool true:=r';refine⟨1,OldK.of_keep λb o e=> ?_,os,bare⟩;cases q:H b with
    |none=>exact un.keep b o e q (by intro z;exact absurd (show b∈([]:oj o3) from z) (by simp)) (by simp)
    |some u=>
     rcases hO b with z|⟨ob,xs,z⟩
     ·rw [q] at z;cases z
     ·have z2:=un.frzs b ob _ z;obtain⟨e1,_⟩:=hok b _ z;obtain⟨e2,_⟩:=al b _ z2;rw [e] at e1;cases e1;exact e2
 cases hk:K.lookup a with
 |some o=>
  have e:=KX a o hk;rw [ha] at e;cases e;refine ac (λ_=>none) (λ_=> .inl rfl) (.inr ⟨_,vs.toArray,_,hk,1,1,1,by rw [uj,ah];exact hl,by simpa using rv⟩) (λb u z=>by have z':(none:om HO)=some u:=z;cases z') (λb z=>absurd rfl z) λz=>absurd rfl z
 |none=>
  refine ac (λb=>if b=a then some (.frz {cls:= .type "list",data:= .seq vs.toArray} (.lst (ns.map V.int))) else none) (λb=> ?_) (.inl (.inr ⟨{cls:= .type "list",data:= .seq vs.toArray},if_pos rfl⟩)) (λb u z=> ?_) (λb z=> ?_) λ_=>hk
  ·by_cases hb:b=a
   ·exact .inr ⟨_,_,if_pos hb⟩
   ·exact .inl (if_neg hb)
  ·by_cases hb:b=a
   ·have z':=(if_pos hb).symm.trans z;cases z';subst hb;exact⟨ha,by rw [u9];exact hl,vs,_,rv,ha⟩
   ·have z':=(if_neg hb).symm.trans z;cases z'
  ·by_cases hb:b=a
   ·exact hb
   ·exact absurd (if_neg hb) z
abbrev KOf {K:o0}{h:o8}(_:K.In h):o0:=K
theorem walk_of {l:PySem.W.OpenLaw}{n k:Nat}{q:o9}{U:oj Str}{XP:(Str->om o6)->o8->Prop}{YP:og->o8->Prop}{d:DefRec}{K:Params->o0}{CX:og->CXT}{sp:og->Sp}{x:Str}
  (hn:l.most=some n) (ae:n<=sizeLine) (af:d.params.defaults= []) (hr:Room k callerA)
  (hY:∀(w:og) (h:o8),YP w h->(K w.params).In h)
  (F:∀(w:og) (mg:Str->om o6) (fa:o3) (h:o8),(K w.params).In h->h.Ns mainGlobals mg->mg d.name=some (.ref fa)->
   ∃fd:FuncData,(∀(s:o7) (u:o6),BindsTo s fd ⟨[u],[]⟩ [(x,u)])/\fd.scope.names.lookup x=some .local/\
    ∀base:o8,(K w.params).In base->base.Ns mainGlobals mg->FnOk l.prog w (K w.params) mg base (CX w) k fa fd [x] (sp w))
  (ag:∀(w:og) (H:Hp) (a:o3) (ns:oj Int),ns.length<=n->Only H->SqL (K w.params) H a (ns.map V.int)->sp w [.ref a] H (λv _=>v= .bl true) λ_ _ _=>False)
  (ah:∀(w:og) (H:Hp) (s:o7) (e:o6) (s':o7),CX w [] H s (λ_ _ _=>False) e s'->False):
  PySem.W.WalkO q U XP YP l.row.toRowW d [] (λf vs=>PySem.call f vs):=by
 refine Att.attach_call hn af λw s₀ s₁ mg mb fa o pm cd doc a vs ns G Y ho hd al ak ac aa O hg=> ?_;have KX:=hY w _ Y;obtain⟨fd,hb,ad,hF⟩:=F w mg fa _ KX G.T.g ak;exact law_call KX G.T.g G.T.b G.T.builtins G.T.nolimit hg ac aa (uQ O ae) hr hF hb ad (λH hO hS=>ag w H a ns O hO hS) λH e s'=>ah w H s₁ e s'
theorem walk_ofK {l:PySem.W.OpenLaw}{n k:Nat}{q:o9}{O:oj Str}{XP:(Str->om o6)->o8->Prop}{YP:og->o8->Prop}{d:DefRec}{K:Params->o0}{CX:CXT}{sp:o0->Sp}{x:Str}
  (hn:l.most=some n) (U:n<=sizeLine) (aa:d.params.defaults= []) (hr:Room k callerA)
  (hY:∀(w:og) (h:o8),YP w h->(K w.params).In h)
  (F:∀(w:og) (mg:Str->om o6) (fa:o3) (h:o8),(K w.params).In h->h.Ns mainGlobals mg->mg d.name=some (.ref fa)->
   ∃fd:FuncData,(∀(s:o7) (u:o6),BindsTo s fd ⟨[u],[]⟩ [(x,u)])/\fd.scope.names.lookup x=some .local/\
    ∀base:o8,(K w.params).In base->base.Ns mainGlobals mg->FnOk l.prog w (K w.params) mg base CX k fa fd [x] (sp (K w.params)))
  (ac:∀(K:o0) (H:Hp) (a:o3) (ns:oj Int),ns.length<=n->Only H->SqL K H a (ns.map V.int)->sp K [.ref a] H (λv _=>v= .bl true) λ_ _ _=>False)
  (ad:∀(H:Hp) (s:o7) (e:o6) (s':o7),CX [] H s (λ_ _ _=>False) e s'->False):
  PySem.W.WalkO q O XP YP l.row.toRowW d [] (λf vs=>PySem.call f vs):=
 walk_of (K:=K) (CX:=λ_=>CX) (sp:=λw=>sp (K w.params)) hn U aa hr hY F (λw H a ns h1 h2 h3=>ac (K w.params) H a ns h1 h2 h3) λ_ H s e s'=>ad H s e s'
def Qa (s:Stmt)(j:Nat):Stmt:=match s with
 | .ClassDef _ _ _ body _ _ _ _ _ _ _=>body.getD j (.Pass ⟨(0),(0),(0),(0)⟩)
 |_=> .Pass ⟨(0),(0),(0),(0)⟩
def y8 (s:Stmt):Arguments:=match s with
 | .FunctionDef _ a _ _ _ _ _ _ _ _=>a
 |_=>{posonlyargs:= [],args:= [],vararg:=none,kwonlyargs:= [],kw_defaults:= [],kwarg:=none,defaults:= []}
def yA (s:Stmt):oj Stmt:=match s with
 | .FunctionDef _ _ b _ _ _ _ _ _ _=>b
 |_=> []
def qi (s:Stmt):Scope:=match s with
 | .FunctionDef _ _ _ _ _ _ sc _ _ _=>sc
 |_=>{kind:= .function,names:= [],isGenerator:=false,isCoroutine:=false}
abbrev CX0:CXT:=λ_ _ _ _ _ _=>False
abbrev E0:XK:=λ_ _ _=>False
theorem qB {X:Cx}:xm CX0 X E0:=λ_ _ _ _ _ _ _ h=>h.elim
structure Fun (K:o0)(x qual:Str)(st:Stmt)(f:o3)(fd:FuncData):Prop where
 ex:∃(oc:o6) (od:om o3) (kV doc pm:o6) (an:om o3) (cdv ct:o6) (osl:Array (om o6)),
  fd=PySem.W.fnOf x qual (y8 st) (yA st) (qi st) .none kV doc pm an cdv ct/\K.lookup f=some ⟨oc,od,.func fd,osl⟩/\PySem.W.codeIn K cdv qual=true
 kp:PySem.W.keepIn K (.ref f)=true
section
variable {P:o9}{w:og}{K:o0}{mg:Str->om o6}{base:o8}
theorem Fun.ok {x qual:Str}{st:Stmt}{f:o3}{fd:FuncData}{N ps:oj Str}{k:Nat}{sp:Sp}(F:Fun K x qual st f fd)(S:qt N ps (qi st))(len:∀vs H Q E,sp vs H Q E->vs.length=ps.length)
  (O:∀(cdv:o6) (A:oh) (outer:oj Env) (s:o7) (H:Hp) (vs:oj V) (Q:VK) (E:XK),Room k (A.deeper (envOfC qual (qi st) s.heap.objs.size f cdv))->sp vs H Q E->
   ∃t,PSs (cxOf CX0 P w K mg base N qual (qi st) f cdv A outer s H E).nox (yA st) t/\t {nx:=λ_ H'=>Q .non H',rt:=Q} (WN N vs) H):FnOk P w K mg base CX0 (k+1) f fd ps sp:=by
 obtain⟨oc,od,kV,doc,pm,an,cdv,ct,osl,rfl,lk,U⟩:=F.ex;refine fn_of lk U S len λA outer s H vs Q E hr aa=> ?_;obtain⟨t,h,q⟩:=O cdv A outer s H vs Q E hr aa;exact⟨t,h.nox,q⟩
theorem Fun.binds {x qual:Str}{st:Stmt}{f:o3}{fd:FuncData}{ps:oj Str}(F:Fun K x qual st f fd)
  (h:∀(kV doc pm:o6) (an:om o3) (cdv ct:o6) (us:oj o6),us.length=ps.length->bindArgs (PySem.W.fnOf x qual (y8 st) (yA st) (qi st) .none kV doc pm an cdv ct) ⟨us,[]⟩=pure (ps.zip us)):J5 K fd ps []:=by
 obtain⟨oc,od,kV,doc,pm,an,cdv,ct,osl,rfl,lk,O⟩:=F.ex;exact .all (h kV doc pm an cdv ct)
theorem fun_mk {x qual:Str}{st:Stmt}{f:o3}{oc:o6}{od an:om o3}{osl:Array (om o6)}{kV doc pm cdv ct:o6}(l:K.lookup f=some ⟨oc,od,.func (PySem.W.fnOf x qual (y8 st) (yA st) (qi st) .none kV doc pm an cdv ct),osl⟩)
  (c:PySem.W.codeIn K cdv qual=true) (k:PySem.W.keepIn K (.ref f)=true):Fun K x qual st f (PySem.W.fnOf x qual (y8 st) (yA st) (qi st) .none kV doc pm an cdv ct):=⟨⟨oc,od,kV,doc,pm,an,cdv,ct,osl,1,l,c⟩,k⟩
end
theorem QU {A:oh}{k:Nat}(O:Room k A):A.units+1<cLine:=Uu (Nat.add_le_add_left (by decide:1<=64) _) O.units
theorem xL {n:Nat}(h:n<=1000):n<sizeLine:=Uu h (by decide)
section
variable {X:Cx}
theorem pv (i:Nat){x:Str}{pos:Pos}(U:X.N[i]? =some x:=by rfl)(hv:Vis X.env.scope x:=by first|exact Or.inl rfl|exact Or.inr (Or.inl rfl)|exact Or.inr (Or.inr rfl))(hd:(x==("__debug__":Str))=false:=by decide)
  (O:(x==("__classdict__":Str))=false:=by decide):PE X (.Name x pos) (tVar i):=pe_var U hv hd O
theorem call_lenD:y6 X (.builtin "len") (λxs H Q=>∃a kvs,xs= [V.ref a]/\H a=some (.dK kvs)/\Q (.int kvs.length) H):=by
 intro oq s σ H xs us Q I r h;obtain⟨a,kvs,rfl,ha,q⟩:=h;obtain⟨u,rfl,ru⟩:=JZ r;cases ru;exact d_len I (.inl ha) λt s' O=>⟨.int kvs.length,H,O,⟨t,1⟩,q⟩
end
theorem iteF {A B:Prop}(h:B):if false=true then A else B:=by
 rw [if_neg u8];exact h
theorem iteT {A B:Prop}(h:A):if true=true then A else B:=by
 rw [if_pos rfl];exact h
theorem ite2 {c A B:Prop}[Decidable c](h1:c->A)(h2:¬c->B):if c then A else B:=by
 by_cases h:c
 ·rw [if_pos h];exact h1 h
 ·rw [if_neg h];exact h2 h
def Same (H H':Hp):Prop:=∀b o,H b=some o->H' b=some o
theorem Same.refl (H:Hp):Same H H:=λ_ _ h=>h
theorem Same.trans {H H1 H2:Hp}(a:Same H H1)(b:Same H1 H2):Same H H2:=λc o h=>b c o (a c o h)
theorem Same.free {H H':Hp}(e:Same H H'){l:o3}(h:H' l=Option.none):H l=Option.none:=by
 cases q:H l with
 |none=>rfl
 |some o=>
  rw [e l o q] at h;cases h
section
variable {κ:Type}[DecidableEq κ]
theorem valV_in {kvs:oj (κ×V)}{k:κ}{v:V}(h:valV kvs k=some v):k∈kvs.map (·.1):=by
 have q:(kvs.any λkv=>decide (kv.1=k))=true:=by
  rw [j0,h]
  all_goals rfl
 obtain⟨p,O,e⟩:=List.any_eq_true.mp q;exact List.mem_map.mpr ⟨p,O,uh e⟩
theorem dropK_pos {p:κ×V}{r:oj (κ×V)}{k:κ}(e:p.1=k):jy (p::r) k=jy r k:=by
 unfold jy;rw [vB,if_neg (by simp [e])]
theorem dropK_neg {p:κ×V}{r:oj (κ×V)}{k:κ}(e:¬p.1=k):jy (p::r) k=p::jy r k:=by
 unfold jy;rw [vB,if_pos (by simp [e])]
end
end L2
namespace L2
open PySem
inductive D where
 |non|bl (b:Bool)|int (i:Int)|str (z:Str)|lst|dct|tup (xs:List D)
def Qs (c:Nat):Bool:=decide (32<=c)&&decide (c<=126)&&decide (c≠37)
def Qq (z:Str):Bool:=decide (z.length<=300)&&z.cps.toList.all Qs
mutual
def good:D->Bool
 | .str z=>Qq z
 | .tup xs=>decide (xs.length<=40)&&goodL xs
 |_=>false
def goodL:oj D->Bool
 | []=>true
 |x::r=>good x&&goodL r
end
mutual
def sz:D->Nat
 | .str z=>z.length+1
 | .tup xs=>1+szL xs
 |_=>0
def szL:oj D->Nat
 | []=>0
 |x::r=>sz x+szL r
end
mutual
def dp:D->Nat
 | .str _=>1
 | .tup xs=>1+dpL xs
 |_=>0
def dpL:oj D->Nat
 | []=>0
 |x::r=>max (dp x) (dpL r)
end
mutual
def nd:D->Nat
 | .tup xs=>1+ndL xs
 |_=>1
def ndL:oj D->Nat
 | []=>0
 |x::r=>nd x+ndL r
end
noncomputable def isT (d:D):Bool:=good d&&decide (sz d<=600)&&decide (dp d<=12)
theorem XF:∀(xs ys:oj D),szL (xs++ys)=szL xs+szL ys
 | [],ys=>by simp [szL]
 |x::r,ys=>by simp only [Ul,szL,XF r ys];omega
theorem Xf:∀(xs ys:oj D),ndL (xs++ys)=ndL xs+ndL ys
 | [],ys=>by simp [ndL]
 |x::r,ys=>by simp only [Ul,ndL,Xf r ys];omega
theorem zJ {k:Nat}:∀(xs:oj D),dpL xs<=k↔∀x∈xs,dp x<=k
 | []=>by simp [dpL]
 |x::r=>by
  have U:=zJ (k:=k) r;have e:dpL (x::r)=max (dp x) (dpL r):=by simp only [dpL]
  rw [e];constructor
  ·intro h y O;rcases List.mem_cons.mp O with rfl|O
   ·omega
   ·exact U.mp (by omega) y O
  ·intro h;have h1:=h x ud;have h2:=U.mpr λy O=>h y (ub _ O);omega
theorem dp_pos {d:D}(h:good d=true):1<=dp d:=by
 cases d<;>simp_all [good,dp]
def wOk (w:oj (D×Nat)):Bool:=w.all λp=>good p.1&&decide (p.2+dp p.1<=13)
def wSz (w:oj (D×Nat)):Nat:=szL (w.map (·.1))
def G (w:oj (D×Nat))(n:Nat):Bool:=wOk w&&decide (n+wSz w<=600)
theorem G_start (d:D):G [(d,1)] 0=isT d:=by
 simp only [G,wOk,wSz,isT,vi,List.all_nil,uq,Uf,szL,vL,Nat.zero_add,Nat.add_zero];have e:decide (1+dp d<=13)=decide (dp d<=12):=by
  rw [uR];omega
 rw [e];cases good d<;>cases decide (sz d<=600)<;>cases decide (dp d<=12)<;>rfl
theorem G_nil {n:Nat}(h:n<=600):G [] n=true:=by simp [G,wOk,wSz,szL,h]
theorem G_snoc (w:oj (D×Nat))(d:D)(k n:Nat):G (w++ [(d,k)]) n=(wOk w&&(good d&&decide (k+dp d<=13))&&decide (n+(wSz w+sz d)<=600)):=by
 simp only [G,wOk,wSz,Uv,vi,List.all_nil,vL,uu,uq,Uf,XF,szL,Nat.add_zero]
 rfl
theorem G_bad {w:oj (D×Nat)}{d:D}{k n:Nat}(h:good d=false):G (w++ [(d,k)]) n=false:=by
 rw [G_snoc,h];simp
theorem G_deep {w:oj (D×Nat)}{d:D}{k n:Nat}(h:12<k):G (w++ [(d,k)]) n=false:=by
 rw [G_snoc];cases O:good d with
 |false=>simp
 |true=>
  have:=dp_pos O;have e:decide (k+dp d<=13)=false:=ue (by omega)
  rw [e];simp
theorem G_big {w:oj (D×Nat)}{d:D}{k n:Nat}(h:600<n+sz d):G (w++ [(d,k)]) n=false:=by
 rw [G_snoc];have e:decide (n+(wSz w+sz d)<=600)=false:=ue (by omega)
 rw [e];simp
theorem G_big1 {w:oj (D×Nat)}{xs:oj D}{k n:Nat}(h:600<n+1):G (w++ [(.tup xs,k)]) n=false:=G_big (by simp only [sz];omega)
theorem wOk_map (xs:oj D)(k:Nat):wOk (xs.map λx=>(x,k+1))=(goodL xs&&xs.all λx=>decide (k+1+dp x<=13)):=by
 induction xs with
 |nil=>rfl
 |cons x r O=>
  simp only [uq,wOk,vi,goodL] at O⊢;rw [O];cases good x<;>cases decide (k+1+dp x<=13)<;>cases goodL r<;>simp
theorem wSz_map (xs:oj D)(k:Nat):wSz (xs.map λx=>(x,k+1))=szL xs:=by
 unfold wSz;rw [uG]
 congr 1
 induction xs with
 |nil=>rfl
 |cons x r O=>simp only [uq,O];rfl
theorem G_tup {w:oj (D×Nat)}{xs:oj D}{k n:Nat}(U:xs.length<=40)(hk:k<=12):G (w++ [(.tup xs,k)]) n=G (w++xs.map λx=>(x,k+1)) (n+1):=by
 rw [G_snoc];unfold G;have e1:wOk (w++xs.map λx=>(x,k+1))=(wOk w&&wOk (xs.map λx=>(x,k+1))):=by unfold wOk;rw [Uv]
 have e2:wSz (w++xs.map λx=>(x,k+1))=wSz w+szL xs:=by
  have:=wSz_map xs k;unfold wSz at this⊢;rw [uu,XF,this]
 have e3:decide (k+dp (.tup xs)<=13)=xs.all λx=>decide (k+1+dp x<=13):=by
  have q:=zJ (k:=12-k) xs;have e0:dp (.tup xs)=1+dpL xs:=by simp only [dp]
  rw [e0,vx];constructor
  ·intro h;have h:=uh h;refine List.all_eq_true.mpr λx O=>uc ?_;have h2:=q.mp (by omega) x O
   omega
  ·intro h;refine uc ?_;have h2:=q.mpr λx O=>by
    have h3:=uh (List.all_eq_true.mp h x O);omega
   omega
 rw [e1,e2,e3,wOk_map];have e4:good (.tup xs)=goodL xs:=by simp only [good,uc U,Bool.true_and]
 have e5:decide (n+(wSz w+sz (.tup xs))<=600)=decide (n+1+(wSz w+szL xs)<=600):=by
  rw [uR];simp only [sz];omega
 rw [e4,e5]
theorem G_str {w:oj (D×Nat)}{z:Str}{k n:Nat}(O:Qq z=true)(hk:k<=12):G (w++ [(.str z,k)]) n=G w (n+(1+z.length)):=by
 rw [G_snoc];unfold G;have U:good (.str z)=true:=by simp only [good,O]
 have e3:decide (k+dp (.str z)<=13)=true:=uc (by simp only [dp];omega)
 have e5:decide (n+(wSz w+sz (.str z))<=600)=decide (n+(1+z.length)+wSz w<=600):=by
  rw [uR];simp only [sz];omega
 rw [U,e3,e5];simp
end L2
namespace AwZ
open PySem PyProof.Rows
open PySem.AutoSeq1 (wpAny_loadPart')
section
variable {prog:o9}{w:og}{A:oh}{E:o6->o7->Prop}{s:o7}
theorem tdraw {j t:o3}{i:Nat}{its:Array o6}{x:o6}{Q:o6->o7->Prop}(U:s.heap.IsTupleIter j t i)(gt:s.heap.IsTuple t its)(gx:its[i]? =some x)
  (q:∀h2,h2.IsTupleIter j t (i+1)->Heap.SameBut j s.heap h2->Q x {s with heap:=h2}):wpAny (model prog w) A (Builtin.SmallTypes.nextOf (.ref j)) Q E s:=by
 obtain⟨u,O,cu,du⟩:=id U;obtain⟨ut,aa,_,nt,ac⟩:=gt;unfold Builtin.SmallTypes.nextOf;refine wpAny_bind (vm (name:=Str.ofString "__next__") U.typeIs vH
  (vA vH U.typeIs F.entry_tuple_iterator_next ?_ (F.args_tuple_iterator_next_1 _)))
 show wpAny _ _ (field (.ref j) 0>>=_) _ _ s;refine wpAny_bind (vk O du (x:= .ref t) rfl ?_);show wpAny _ _ (if(Value.ref t==Value.none)=true then _ else _) _ _ s
 rw [if_neg (show¬(Value.ref t==Value.none)=true from u8)]
 show wpAny _ _ (field (.ref j) 1>>=_) _ _ s;refine wpAny_bind (vk O du (x:= .int i 0) rfl ?_);show wpAny _ _ (seqItems? (.ref t)>>=_) _ _ s;refine wpAny_bind (vY aa ac ?_);simp only [Int.toNat_natCast,gx];refine wpAny_bind (wpAny_setField O du (by simp) (um ⟨x,1,um (q _ ?_ (Heap.SameBut.update ..))⟩))
 exact⟨_,Heap.get?_update_self _ O (Obj.isFreed_of_fields (Obj.data_mapFields du _)),(Obj.cls_mapFields ..).trans cu,by rw [Obj.data_mapFields du];simp [rawInt]⟩
theorem tdraw_end {j t:o3}{i:Nat}{its:Array o6}{Q:o6->o7->Prop}(hh:A.handled=none)(O:s.heap.IsTupleIter j t i)(gt:s.heap.IsTuple t its)(gx:its[i]? =none)
  (q:∀h2 e,Heap.ExtBut j s.heap h2->(∃u,h2.get? e=some u/\u.cls= .type "StopIteration")->E (.ref e) {s with heap:=h2}):wpAny (model prog w) A (Builtin.SmallTypes.nextOf (.ref j)) Q E s:=by
 obtain⟨u,U,cu,du⟩:=id O;obtain⟨ut,aa,_,nt,ac⟩:=gt;unfold Builtin.SmallTypes.nextOf;refine wpAny_bind (vm (name:=Str.ofString "__next__") O.typeIs vH
  (vA vH O.typeIs F.entry_tuple_iterator_next ?_ (F.args_tuple_iterator_next_1 _)))
 show wpAny _ _ (field (.ref j) 0>>=_) _ _ s;refine wpAny_bind (vk U du (x:= .ref t) rfl ?_);show wpAny _ _ (if(Value.ref t==Value.none)=true then _ else _) _ _ s
 rw [if_neg (show¬(Value.ref t==Value.none)=true from u8)]
 show wpAny _ _ (field (.ref j) 1>>=_) _ _ s;refine wpAny_bind (vk U du (x:= .int i 0) rfl ?_);show wpAny _ _ (seqItems? (.ref t)>>=_) _ _ s;refine wpAny_bind (vY aa ac ?_);simp only [Int.toNat_natCast,gx];refine wpAny_bind (UD (wpAny_bind (wpAny_setField U du (by simp) ?_)))
 show wpAny _ _ (newExc (.type "StopIteration") []>>=_) _ _ _;refine wpAny_bind ?_;simp only [newExc,newTuple];refine wpAny_bind (vd ?_ (by size_fits))
 refine wpAny_bind (m:=firstArgMember _ _) (wpAny_of_eq (a:=Value.none) (by first|rfl|(simp only [firstArgMember];rfl)) ?_)
 refine vd ?_ (by size_fits)
 simp only [raiseNew];refine wpAny_bind (wpAny_handled ?_)
 first|rw [show A.in1.handled=none from hh]|rw [hh]
 refine wpAny_bind (um (wpAny_throw ?_));exact q _ _ (((Heap.SameBut.update ..).extBut.push _).push _) ⟨_,uz _ rfl,1⟩
structure Apt (z p r i j a b:o3):Prop where
 pz:p≠z
 rz:r≠z
 iz:i≠z
 jz:j≠z
 pr:p≠r
 pi:p≠i
 pj:p≠j
 ri:r≠i
 rj:r≠j
 ij:i≠j
 az:a≠z
 ar:a≠r
 ai:a≠i
 aj:a≠j
 bz:b≠z
 br:b≠r
 bi:b≠i
 bj:b≠j
theorem ziptl {z p r i j a b:o3}{k:Nat}{xs ys:Array o6}{x y u v:o6}{Q:o6->o7->Prop}(D:Apt z p r i j a b)
  (hz:IsZip s.heap z p r .none) (hp:IsPair s.heap p (.ref i) (.ref j)) (hr:IsPair s.heap r u v)
  (hi:s.heap.IsTupleIter i a k) (hj:s.heap.IsListIter j b k) (ha:s.heap.IsTuple a xs) (hb:s.heap.IsList b ys) (hx:xs[k]? =some x) (hy:ys[k]? =some y)
  (q:∀h2,IsZip h2 z p r (rawInt s.heap.objs.size)->IsPair h2 r x y->h2.IsTupleIter i a (k+1)->h2.IsListIter j b (k+1)->IsPair h2 s.heap.objs.size x y->h2.objs.size=s.heap.objs.size+1->
   (∀c o,c≠z->c≠r->c≠i->c≠j->s.heap.get? c=some o->h2.get? c=some o)->Q (.ref s.heap.objs.size) {s with heap:=h2}):
  wpAny (model prog w) A (Builtin.«zip.__next__» ⟨[.ref z],[]⟩) (λfin t=>∃v,fin= .done (.ret v)/\Q v t) E s:=by
 show wpAny _ _ (field (.ref z) 2>>=_) _ _ _;refine wpAny_bind (vk hz rfl (x:= .bool false) rfl ?_);show wpAny _ _ (field (.ref z) 3>>=_) _ _ _;refine wpAny_bind (vk hz rfl (x:= .ref p) rfl ?_);refine wpAny_bind (vY hp rfl ?_);show wpAny _ _ (Builtin.SmallTypes.ownedTupleIsFree (.ref z)>>=_) _ _ s;refine wpAny_bind ?_;unfold Builtin.SmallTypes.ownedTupleIsFree;refine wpAny_bind (vk hz rfl (x:= .none) rfl (um ?_));simp only [if_true];refine wpAny_bind (UD ?_);refine wpAny_bind (vk hz rfl (x:= .ref r) rfl ?_);refine wpAny_bind (U8 hz (by simp) λh1 z1 s1=> ?_)
 replace z1:IsZip h1 z p r .ellipsis:=z1
 refine wpAny_bind ?_;simp only [List.zipIdx_cons,List.zipIdx_nil,Ue,List.forIn_nil];refine wpAny_bind (wpAny_bind (wpAny_onRaise ?_));show wpAny _ _ (Builtin.SmallTypes.nextOf (.ref i)>>=_) _ _ _;refine wpAny_bind (tdraw (hi.extBut s1.extBut D.iz) (ha.extBut s1.extBut D.az) hx λh2 i2 s2=>um ?_);have r2:IsPair h2 r u v:=s2.extBut _ _ D.ri (s1.extBut _ _ D.rz hr);refine wpAny_bind (vY r2 rfl ?_);refine wpAny_bind (wpAny_updateSeq_pair r2 λh3 r3 s3=> ?_)
 replace r3:IsPair h3 r x v:=r3
 refine wpAny_bind (wpAny_letGo (um ?_));refine wpAny_bind (wpAny_bind (wpAny_onRaise ?_));show wpAny _ _ (Builtin.SmallTypes.nextOf (.ref j)>>=_) _ _ _;refine wpAny_bind (wpAny_nextOf_list_item (((hj.extBut s1.extBut D.jz).extBut s2.extBut D.ij.symm).extBut s3.extBut D.rj.symm)
  (((hb.extBut s1.extBut D.bz).extBut s2.extBut D.bi).extBut s3.extBut D.br) hy λh4 j4 s4=>um ?_)
 have r4:IsPair h4 r x v:=s4.extBut _ _ D.rj r3;refine wpAny_bind (vY r4 rfl ?_);refine wpAny_bind (wpAny_updateSeq_pair r4 λO r5 s5=> ?_)
 replace r5:IsPair O r x y:=r5
 refine wpAny_bind (wpAny_letGo (um (um ?_)));refine wpAny_bind (vY r5 rfl ?_);refine wpAny_bind (wpAny_newTuple ?_);have sz:O.objs.size=s.heap.objs.size:=by rw [s5.1,s4.1,s3.1,s2.1,s1.1]
 have z5:IsZip O z p r .ellipsis:=s5.extBut _ _ D.rz.symm (s4.extBut _ _ D.jz.symm (s3.extBut _ _ D.rz.symm (s2.extBut _ _ D.iz.symm z1)));have k5:∀c o,c≠z->c≠r->c≠i->c≠j->s.heap.get? c=some o->O.get? c=some o:=λc o U c2 c3 c4 e=>
  s5.extBut _ _ c2 (s4.extBut _ _ c4 (s3.extBut _ _ c2 (s2.extBut _ _ c3 (s1.extBut _ _ U e))))
 have i5:O.IsTupleIter i a (k+1):=((i2.extBut s3.extBut D.ri.symm).extBut s4.extBut D.ij).extBut s5.extBut D.ri.symm;have j5:O.IsListIter j b (k+1):=j4.extBut s5.extBut D.rj.symm;have aa:z<O.objs.size:=uw z5;show wpAny _ _ (Builtin.SmallTypes.ownedTupleHandOut (.ref z) (.ref O.objs.size)>>=_) _ _ _;refine wpAny_bind ?_;unfold Builtin.SmallTypes.ownedTupleHandOut;have z6:IsZip (O.push {cls:= .type "tuple",data:= .seq #[x,y]}) z p r .ellipsis:=ua _ z5;refine wpAny_bind (U8 z6 (by simp) λh7 z7 s7=> ?_)
 replace z7:IsZip h7 z p r (rawInt O.objs.size):=z7
 refine U8 z7 (by simp) λh8 z8 s8=> ?_
 replace z8:IsZip h8 z p r (rawInt O.objs.size):=z8
 have up:∀c o,c≠z->O.get? c=some o->h8.get? c=some o:=λc o U e=>s8.extBut _ _ U (s7.extBut _ _ U (ua _ e));have t8:IsPair h8 O.objs.size x y:=s8.extBut _ _ (Ud aa) (s7.extBut _ _ (Ud aa) (uz _ rfl));have n8:h8.objs.size=O.objs.size+1:=by rw [s8.1,s7.1,vh]
 rw [sz] at z8 t8 n8;refine um ⟨0,?_⟩;show Q (.ref O.objs.size) _;rw [sz];exact q h8 z8 (up _ _ D.rz r5) (by obtain⟨o,e,g⟩:=i5;exact⟨o,up _ o D.iz e,g⟩) (j5.at λo e=>up _ o D.jz e) t8 n8 λc o U c2 c3 c4 e=>up c o U (k5 c o U c2 c3 c4 e)
theorem zip_go {z p r i j a b:o3}{k:Nat}{xs ys:Array o6}{x y u v:o6}{Q:om o6->o7->Prop}(D:Apt z p r i j a b)
  (O:IsZip s.heap z p r .none) (hp:IsPair s.heap p (.ref i) (.ref j)) (hr:IsPair s.heap r u v)
  (hi:s.heap.IsTupleIter i a k) (hj:s.heap.IsListIter j b k) (ha:s.heap.IsTuple a xs) (hb:s.heap.IsList b ys) (hx:xs[k]? =some x) (hy:ys[k]? =some y)
  (q:∀h2,IsZip h2 z p r (rawInt s.heap.objs.size)->IsPair h2 r x y->h2.IsTupleIter i a (k+1)->h2.IsListIter j b (k+1)->IsPair h2 s.heap.objs.size x y->h2.objs.size=s.heap.objs.size+1->
   (∀c o,c≠z->c≠r->c≠i->c≠j->s.heap.get? c=some o->h2.get? c=some o)->Q (some (.ref s.heap.objs.size)) {s with heap:=h2}):
  wpAny (model prog w) A (pyNext (.ref z)) Q E s:=by
 have U:s.TypeIs (.ref z) "zip":=⟨_,O,1⟩;unfold pyNext;exact wpAny_bind (Uw (vm (name:=Str.ofString "__next__") U F.slot_zip_next
  (vA F.slot_zip_next U F.entry_zip_next (ziptl D O hp hr hi hj ha hb hx hy λh2 b1 b2 b3 b4 b5 b6 b7=>um (q h2 b1 b2 b3 b4 b5 b6 b7)) (F.args_zip_next_1 _))))
theorem zip_stop {z p r i j a b:o3}{k:Nat}{xs:Array o6}{Q:om o6->o7->Prop}(hh:A.handled=none)(D:Apt z p r i j a b)
  (O:IsZip s.heap z p r .none) (hp:IsPair s.heap p (.ref i) (.ref j)) (hi:s.heap.IsTupleIter i a k) (ha:s.heap.IsTuple a xs) (hx:xs[k]? =none)
  (q:∀h2,(∀c o,c≠z->c≠r->c≠i->c≠j->s.heap.get? c=some o->h2.get? c=some o)->Q none {s with heap:=h2}):wpAny (model prog w) A (pyNext (.ref z)) Q E s:=by
 have tz:s.TypeIs (.ref z) "zip":=⟨_,O,1⟩;unfold pyNext;refine wpAny_bind (Uw (vm (name:=Str.ofString "__next__") tz F.slot_zip_next
  (vA F.slot_zip_next tz F.entry_zip_next ?_ (F.args_zip_next_1 _))))
 show wpAny _ _ (field (.ref z) 2>>=_) _ _ _;refine wpAny_bind (vk O rfl (x:= .bool false) rfl ?_);show wpAny _ _ (field (.ref z) 3>>=_) _ _ _;refine wpAny_bind (vk O rfl (x:= .ref p) rfl ?_);refine wpAny_bind (vY hp rfl ?_);show wpAny _ _ (Builtin.SmallTypes.ownedTupleIsFree (.ref z)>>=_) _ _ s;refine wpAny_bind ?_;unfold Builtin.SmallTypes.ownedTupleIsFree;refine wpAny_bind (vk O rfl (x:= .none) rfl (um ?_));simp only [if_true];refine wpAny_bind (UD ?_);refine wpAny_bind (vk O rfl (x:= .ref r) rfl ?_);refine wpAny_bind (U8 O (by simp) λh1 U s1=> ?_)
 replace U:IsZip h1 z p r .ellipsis:=U
 refine wpAny_bind ?_;simp only [List.zipIdx_cons,List.zipIdx_nil,Ue,List.forIn_nil];refine wpAny_bind (wpAny_bind (wpAny_onRaise ?_));show wpAny _ _ (Builtin.SmallTypes.nextOf (.ref i)>>=_) _ _ _;refine wpAny_bind (tdraw_end hh (hi.extBut s1.extBut D.iz) (ha.extBut s1.extBut D.az) hx λh2 e s2 he=> ?_);obtain⟨oe,ge,ce⟩:=he;have z2:IsZip h2 z p r .ellipsis:=s2 _ _ D.iz.symm U;have ez:e≠z:=λx=>by subst x;rw [z2] at ge;cases ge;simp at ce
 refine U8 z2 (by simp) λh3 _ s3=> ?_
 refine wpAny_bind (UH (T:="StopIteration") (b:=true) ⟨oe,s3.extBut _ _ ez ge,ce⟩ isSubtype_stop ?_);exact um (q _ λc o c1 _ c3 _ x=>s3.extBut _ _ c1 (s2 _ _ c3 (s1.extBut _ _ c1 x)))
abbrev q1 (h:o8)(a:o3):o8:=h.push {cls:= .type "tuple_iterator",data:= .fields #[.ref a,.int 0 0]}
abbrev q2 (h:o8)(a b:o3):o8:=(q1 h a).push {cls:= .type "list_iterator",data:= .fields #[.ref b,.int 0 0]}
abbrev q3 (h:o8)(a b:o3):o8:=(q2 h a b).push {cls:= .type "tuple",data:= .seq #[.ref h.objs.size,.ref (q1 h a).objs.size]}
abbrev q4 (h:o8)(a b:o3):o8:=(q3 h a b).push {cls:= .type "tuple",data:= .seq #[.none,.none]}
abbrev q5 (h:o8)(a b:o3):o8:=(q4 h a b).push {cls:= .type "zip",data:= .fields #[.none,.bool false,.bool false,.ref (q2 h a b).objs.size,.ref (q3 h a b).objs.size]}
theorem zip_made (a b:o3)(xs ys:Array o6):Meets (Builtin.«zip.__new__» ⟨[.type "zip",.ref a,.ref b],[]⟩) (λ_ R s=>s.heap.IsTuple a xs/\s.heap.IsList b ys/\R (.ok (.ret (.ref (q4 s.heap a b).objs.size))) {s with heap:=q5 s.heap a b}):=
 .of_wp λprog w A R s h=>by
  obtain⟨O,g,d,tk,os⟩:=s;obtain⟨ha,U,h⟩:=h;have sub:=sub_zip;have h1:Heap.IsTuple (Shared.heap ⟨O,g,d,tk,os⟩) a xs:=ha;have h2:Heap.IsList (Shared.heap ⟨O.push {cls:= .type "tuple_iterator",data:= .fields #[.ref a,.int 0 0]},g,d,tk,os⟩) b ys:=Heap.IsList.push U _
  wp_walk using wpAny_pyIter_tuple h1,UC h2
  exact⟨0,h⟩
theorem zip_call {a b:o3}{xs ys:Array o6}{Q:o6->o7->Prop}(ha:s.heap.IsTuple a xs)(hb:s.heap.IsList b ys)
  (h:∀h2,IsZip h2 (s.heap.objs.size+4) (s.heap.objs.size+2) (s.heap.objs.size+3) .none->IsPair h2 (s.heap.objs.size+2) (.ref s.heap.objs.size) (.ref (s.heap.objs.size+1))->
   IsPair h2 (s.heap.objs.size+3) .none .none->h2.IsTupleIter s.heap.objs.size a 0->h2.IsListIter (s.heap.objs.size+1) b 0->h2.objs.size=s.heap.objs.size+5->
   (∀c o,s.heap.get? c=some o->h2.get? c=some o)->Q (.ref (s.heap.objs.size+4)) {s with heap:=h2}):wpAny (model prog w) A (call (.type "zip") [.ref a,.ref b]) Q E s:=by
 refine callType_new F.called_zip (by decide) (F.typeCall_zip_2 _ _) (F.newCall_zip_2 _ _) (λobj=>F.args_object_init_3 obj _ _) F.entry_zip_new (zip_made a b xs ys) ⟨ha,hb,?_⟩
 have O:(q1 s.heap a).objs.size=s.heap.objs.size+1:=vh ..;have U:(q2 s.heap a b).objs.size=s.heap.objs.size+2:=by rw [vh,O]
 have z3:(q3 s.heap a b).objs.size=s.heap.objs.size+3:=by rw [vh,U]
 have z4:(q4 s.heap a b).objs.size=s.heap.objs.size+4:=by rw [vh,z3]
 have z5:(q5 s.heap a b).objs.size=s.heap.objs.size+5:=by rw [vh,z4]
 have g5:(q5 s.heap a b).get? (q4 s.heap a b).objs.size=some _:=uz _ rfl;have g4:(q5 s.heap a b).get? (q3 s.heap a b).objs.size=some _:=ua _ (uz _ rfl);have g3:(q5 s.heap a b).get? (q2 s.heap a b).objs.size=some _:=ua _ (ua _ (uz _ rfl));have g2:(q5 s.heap a b).get? (q1 s.heap a).objs.size=some _:=ua _ (ua _ (ua _ (uz _ rfl)));have g1:(q5 s.heap a b).get? s.heap.objs.size=some _:=ua _ (ua _ (ua _ (ua _ (uz _ rfl))));show _/\_;rw [U,z3,z4] at g5;rw [O,U] at g3;rw [z3] at g4;rw [O] at g2;rw [z4];exact⟨⟨_,g5,1⟩,h _ g5 g3 g4 ⟨_,g1,1,1⟩ ⟨_,g2,1,1⟩ z5 λc o x=>ua _ (ua _ (ua _ (ua _ (ua _ x))))⟩
end
end AwZ
namespace L2
open PySem PySem.Spec PyProof.Rows
def Its (x:Str):It:=⟨λi _=>i<x.cps.size,λi H v H'=>H'=H/\∃c,x.cps[i]? =some c/\v= .str ⟨#[c]⟩,λi _=>i=x.cps.size⟩
theorem turn_str {P:o9}{w:og}{K:o0}{tg:Expr}{x:Str}{t:Tok}{it:o3}(ty:String)(O:ty="str_ascii_iterator"∨ty="str_iterator"):
  Turn P w K tg (Its x) [it] it (λi h=>h.IsStrIter it ty x t i) where
 mem:=by simp
 obj:=λi h st b U=>by
  have e:b=it:=by simpa using U
  subst e;obtain⟨o,e,c,d⟩:=st;exact⟨o,e,λv z=>by rw [d] at z;cases z⟩
 keep:=λi h h' st k=>by
  obtain⟨o,e,r⟩:=st;exact⟨o,k it (by simp) o e,r⟩
 item:=by
  intro X hP hw hK hc i oq s σ H E I hf st hg;subst hP hw hK;obtain⟨f0,f1,f2,f3,f4,f5⟩:=hf it (by simp)
  have W:Walks X.prog X.w X.A it [it] [it] x.cps.size (SignAt x) (λi h=>h.IsStrIter it ty x t i):=by
   rcases O with rfl|rfl
   ·exact Walks.strAscii (I.ok.hd hc) it x t
   ·exact Walks.strWide (I.ok.hd hc) it x t
  refine uN (n:=1) I.tk (W.item i s _ _ hg st λv h' tk hv aa kk=> ?_);intro htk;obtain⟨c,u,hx,rfl⟩:=hv;have I1:Inv X oq σ H {s with heap:=h',toks:=tk}:=I.turned (λb o U e=>kk b o (by simpa using U) e) f0 f1 f3 f4 f5
  obtain⟨o,e,c',d⟩:=id aa;refine⟨0,go_of (s:={s with heap:=h',toks:=tk}) e c' d (by rcases O with rfl|rfl<;>decide) ⟨.str ⟨#[c]⟩,H,I1,⟨u,1⟩,⟨1,c,hx,1⟩,aa,λb U=>(hf b U).1⟩⟩
 done:=by
  intro X hP hw hK hc i oq s σ H E I hf st hg;subst hP hw hK;have ac:i=x.cps.size:=hg;subst ac;obtain⟨f0,f1,f2,f3,f4,f5⟩:=hf it (by simp)
  have W:Walks X.prog X.w X.A it [it] [it] x.cps.size (SignAt x) (λi h=>h.IsStrIter it ty x t i):=by
   rcases O with rfl|rfl
   ·exact Walks.strAscii (I.ok.hd hc) it x t
   ·exact Walks.strWide (I.ok.hd hc) it x t
  exact uN (n:=1) I.tk (W.done s _ _ st λh' tk kk htk=>⟨1,I.turned (λb o U e=>kk b o (by simpa using U) e) f0 f1 f3 f4 f5⟩)
 self:=λ_ _ _ _ _ st h=>by
  rcases O with rfl|rfl
  ·exact wpAny_pyIter_striter_ascii st h
  ·exact wpAny_pyIter_striter_wide st h
section
variable {X:Cx}{tg:Expr}
def iStr (tl:TE):TI:=λσ H R=>tl σ H λx H1=>∃z,x= .str z/\R (Its z) H1
theorem pi_str {l:Expr}{tl:TE}(U:PE X l tl):PI X tg l (iStr tl):=by
 intro oq s σ H R I h;refine thn (U oq s σ H _ I h) λv s1 ⟨x,H1,O,r1,q1⟩=> ?_;obtain⟨z,e,q⟩:=q1;subst e;obtain⟨t,rfl⟩:=r1;have fp:∀(o:Obj),∀b∈ [s1.heap.objs.size],FpOk X oq H1 b:=λo b hb=>by
  have e:b=s1.heap.objs.size:=by simpa using hb
  subst e;exact O.fpOk (ug _) (O.hok.fresh (ug _))
 cases ha:z.cps.all (·<128)
 ·refine wpAny_pyIter_wide ha ?_;exact⟨s1.heap.objs.size,[s1.heap.objs.size],_,_,H1,1,O.kept (t':=s1.toks) λb o e=>ua _ e,turn_str "str_iterator" (.inr rfl),⟨_,uz _ rfl,1,1⟩,fp default,q⟩
 ·refine wpAny_pyIter_ascii ha ?_;exact⟨s1.heap.objs.size,[s1.heap.objs.size],_,_,H1,1,O.kept (t':=s1.toks) λb o e=>ua _ e,turn_str "str_ascii_iterator" (.inl rfl),⟨_,uz _ rfl,1,1⟩,fp default,q⟩
def rSlS:V->om Int->om Int->Hp->VK->Prop:=λx lo hi H Q=>∃z,x= .str z/\z.length<=sizeLine/\Q (.str (Txt.slice z lo hi)) H
def tokOf:o6->om (Int×Tok)
 | .int i t=>some (i,t)
 |_=>none
theorem sl_str:SlR X rSlS:=by
 intro oq s σ H x v O U lo hi sl Q I rx hs pl pu h;obtain⟨z,rfl,hz,q⟩:=h;obtain⟨t,rfl⟩:=rx;refine⟨"str",_,F.slot_str_getitem.lookup,vy _ _ _,?_⟩;have hl:O=partValue (tokOf O)/\lo=(tokOf O).map (·.1):=by cases pl<;>exact⟨1,1⟩
 have hu:U=partValue (tokOf U)/\hi=(tokOf U).map (·.1):=by cases pu<;>exact⟨1,1⟩
 obtain⟨o,e1,e2,e3⟩:=hs;refine uN (n:=1) I.tk ?_;refine wpAny_getItem_str_slice (l:=tokOf O) (u:=tokOf U) (st:=none) ⟨o,e1,e2,by rw [e3,<-hl.1,<-hu.1];rfl⟩ rfl ?_
 refine post_val_or_str ⟨?_,λt' k=> ?_⟩
 ·exact uQ (Txt.slice_le z _ _) hz
 ·intro htk;exact⟨.str (Txt.slice z lo hi),H,I.tok k,⟨t',by rw [hl.2,hu.2];rfl⟩,q⟩
theorem qM {K:o0}(U:X.K=K):y6 X (.builtin "isinstance") (λxs H Q=>∃x T t b,xs= [x,.ty T]/\TyOf K H x t/\PySem.W.kitOne K t (.type T)=some b/\Q (.bl b) H):=by
 intro oq s σ H xs us Q I r h;obtain⟨x,T,t,b,rfl,ty,e,q⟩:=h;obtain⟨u,u',rfl,ru,O⟩:=vals2 r;cases O;subst U;exact uN (n:=1) I.tk (isinst_ok I ru ty e λtk htk=>⟨.bl b,H,I.tok tk,1,q⟩)
theorem all_range:∀bs:oj Bool,(List.range bs.length).all (λi=>bs.getD i true)=bs.all id
 | []=>rfl
 |b::r=>by
  rw [ui,List.range_succ_eq_map,vi,Up,vi];have e:(List.range r.length).all ((λi=>(b::r).getD i true)∘Nat.succ)=(List.range r.length).all λi=>r.getD i true:=by
   congr 1
  rw [e,all_range r]
  rfl
theorem Zb (hc:X.calm=true):y6 X (.builtin "all") (λxs H Q=>∃(p:o3) (bs:oj Bool),xs= [.ref p]/\SqL X.K H p (bs.map V.bl)/\Q (.bl (bs.all id)) H):=by
 intro oq s σ H xs us Q I r h;obtain⟨p,bs,rfl,hp,q⟩:=h;obtain⟨u,rfl,ru⟩:=JZ r;cases ru;obtain⟨its,rv,pl,hz⟩:=I.list hp;have ac:p<s.heap.objs.size:=by obtain⟨o,n,e,_⟩:=pl;exact uw e
 refine uN (n:=1) I.tk ?_;refine call_all_walk (UC pl.isList ?_);have up:∀b o,s.heap.get? b=some o->(s.heap.push {cls:= .type "list_iterator",data:= .fields #[.ref p,.int 0 0]}).get? b=some o:=λb o e=>ua _ e;have hl:its.length=bs.length:=by have:=rv.length;simpa using this.symm
 refine⟨s.heap.objs.size,_,_,_,_,_,λi=>bs.getD i true,1,Walks.list (show X.A.in1.handled=none from I.ok.hd hc) s.heap.objs.size p (uI ac) its.toArray,⟨⟨_,uz _ rfl,1,1⟩,pl.isList.push _⟩,?_,?_⟩
 ·intro i v s' Q' E' hv hQ;have O:its[i]? =some v:=by simpa using hv
  have hi:i<its.length:=(List.getElem?_eq_some_iff.mp O).1;obtain⟨u,e1,e2⟩:=rv.get (i:=i) (x:= .bl (bs[i]'(by omega))) (by simp [show i<bs.length by omega])
  rw [O] at e1;cases e1;cases e2;have:bs.getD i true=bs[i]'(by omega):=by simp [List.getD,show i<bs.length by omega]
  have U:Q' (bs.getD i true) s':=hQ;rw [this] at U;exact vc U
 ·intro h' tk kk htk;have aa:(List.range its.toArray.size).all (λi=>bs.getD i true)=bs.all id:=by
   rw [uj,hl];exact all_range bs
  rw [aa];have I1:=I.kept (t':=s.toks) (h':=s.heap.push {cls:= .type "list_iterator",data:= .fields #[.ref p,.int 0 0]}) up;have ad:=I.fpOk (ug _) (I.hok.fresh (ug s.heap.objs.size));obtain⟨f0,f1,f2,f3,f4,f5⟩:=ad;exact⟨.bl (bs.all id),H,I1.turned (it:=s.heap.objs.size) (λb o hb e=>kk b o (by simpa using hb) e) f0 f1 f3 f4 f5,1,q⟩
end
section
variable {X:Cx}
theorem op_repS:OpR X (binaryOp .Mult) (λx y H Q=>∃z k,x= .str z/\y= .int k/\MulOk z k/\Q (.str (Txt.mul z k)) H):=by
 intro oq s σ H x y v u Q I O U h;obtain⟨z,k,rfl,rfl,hok,q⟩:=h;obtain⟨t,rfl⟩:=O;obtain⟨t',rfl⟩:=U;exact uN (n:=1) I.tk (SB.mul hok λt' k' htk=>⟨.str (Txt.mul z k),H,I.tok k',⟨t',1⟩,q⟩)
theorem Wl {x:Str}{i:Int}{pos:Pos}(O:Gl X x)(hm:∃t,X.mg x=some (.int i t))(hd:(x==("__debug__":Str))=false):PE X (.Name x pos) (tC (.int i)):=by
 obtain⟨t,hm⟩:=hm;exact pe_glob O hm ⟨t,1⟩ hd
theorem pe_gS {x z:Str}{pos:Pos}(O:Gl X x)(hm:∃t,X.mg x=some (.str z t))(hd:(x==("__debug__":Str))=false):PE X (.Name x pos) (tC (.str z)):=by
 obtain⟨t,hm⟩:=hm;exact pe_glob O hm ⟨t,1⟩ hd
theorem zm {x:Str}{a:o3}{pos:Pos}(O:Gl X x)(hm:X.mg x=some (.ref a))(hd:(x==("__debug__":Str))=false):PE X (.Name x pos) (tC (.ref a)):=pe_glob O hm rfl hd
end
theorem qg {H:Hp}{p:o3}(h:H p=none)(o:HO):Same H (upd H p o):=λb u q=>by rw [qh (qj q h)];exact q
def Kept (p:o3)(H H':Hp):Prop:=∀b o,H b=some o->b≠p->H' b=some o
theorem Kept.trans {p:o3}{H H1 H2:Hp}(a:Kept p H H1)(b:Kept p H1 H2):Kept p H H2:=λc o h n=>b c o (a c o h n) n
theorem Kept.upd (p:o3)(H:Hp)(o:HO):Kept p H (L2.upd H p o):=λb u h n=>by rw [qh n];exact h
theorem Kept.same {p:o3}{H H1 H':Hp}(k:Kept p H1 H')(s:Same H H1)(n:H p=none):Same H H':=λb o h=>k b o (s b o h) (qj h n)
theorem j9 {α:Type}{xs:oj α}{i:Int}(O:0<=i)(h1:i<xs.length):∃c,atI xs i=some c:=by
 obtain⟨n,rfl⟩:∃n:Nat,i=(n:Int):=⟨i.toNat,by omega⟩
 have hn:n<xs.length:=by omega
 exact⟨xs[n],QW (uf hn)⟩
noncomputable def clOf (cells:oj (Str×o3)):oj (Str×NameKind)->oj (Str×o3)->oj (Str×o3)
 | [],cs=>cs
 |(n,k)::r,cs=>clOf cells r (if k== .free then(match cells.lookup n with|some a=>(n,a)::cs|none=>cs) else cs)
theorem Wj {cells:oj (Str×o3)}:∀{names:oj (Str×NameKind)}{cs:oj (Str×o3)},(∀y c,cs.lookup y=some c->cells.lookup y=some c)->∀y c,(clOf cells names cs).lookup y=some c->cells.lookup y=some c
 | [],_,h=>h
 |(n,k)::r,cs,h=>by
  unfold clOf;refine Wj λy c e=> ?_;split at e
  ·split at e
   ·rename_i a ha
    rw [uZ] at e;split at e
    ·rename_i U
     have O:y=n:=beq_iff_eq.mp U;subst O;cases e;exact ha
    ·exact h y c e
   ·exact h y c e
  ·exact h y c e
theorem clOf_keep {cells:oj (Str×o3)}:∀{names:oj (Str×NameKind)}{cs:oj (Str×o3)}{y:Str},(∃c,cs.lookup y=some c)->∃c,(clOf cells names cs).lookup y=some c
 | [],_,_,h=>h
 |(n,k)::r,cs,y,h=>by
  unfold clOf;refine clOf_keep ?_;split
  ·split
   ·rw [uZ];split
    ·exact⟨0⟩
    ·exact h
   ·exact h
  ·exact h
theorem WX {cells:oj (Str×o3)}:∀{names:oj (Str×NameKind)}{cs:oj (Str×o3)}{y:Str},(y,NameKind.free)∈names->(∃c,cells.lookup y=some c)->∃c,(clOf cells names cs).lookup y=some c
 | [],_,_,h,_=>nomatch h
 |(n,k)::r,cs,y,h,O=>by
  unfold clOf;rcases List.mem_cons.mp h with e|h
  ·cases e;refine clOf_keep ?_;obtain⟨c,O⟩:=O;rw [if_pos (),O]
   exact⟨c,by simp [uZ]⟩
  ·exact WX h O
theorem Xz {env:Env}:∀{names:oj (Str×NameKind)}{cs:oj (Str×o3)},(∀y,(y,NameKind.free)∈names->∃c,env.cells.lookup y=some c)->
  (forIn names cs λx r=>(do
   if x.2== .free then
    let a<-cellOf env x.1
    pure (ForInStep.yield ((x.1,a)::r))
   else pure (ForInStep.yield r):Sem (ForInStep (oj (Str×o3)))))=(pure (clOf env.cells names cs):Sem (oj (Str×o3)))
 | [],cs,_=>rfl
 |(n,k)::r,cs,h=>by
  rw [Ue];have hr:∀y,(y,NameKind.free)∈r->∃c,env.cells.lookup y=some c:=λy hy=>h y (ub _ hy);unfold clOf;by_cases O:(k==NameKind.free)=true
  ·have U:k= .free:=by simpa using O
   subst U;obtain⟨c,hc⟩:=h n ud;have e:cellOf env n=pure c:=by unfold cellOf;rw [hc]
   simp only [O,if_true,e,hc,pure_bind];exact Xz hr
  ·simp only [if_neg O,pure_bind];exact Xz hr
theorem ww {scope:Scope}{env:Env}(h:∀y,(y,NameKind.free)∈scope.names->∃c,env.cells.lookup y=some c):closureFor scope env=pure (clOf env.cells scope.names []):=by
 unfold closureFor;have q:=Xz (cs:= []) h;show(forIn scope.names ([]:oj (Str×o3)) (λx r=>(do
   if x.2== .free then
    let a<-cellOf env x.1
    pure (ForInStep.yield ((x.1,a)::r))
   else pure (ForInStep.yield r):Sem (ForInStep (oj (Str×o3)))))>>=λcs=>pure cs)=_
 rw [q,pure_bind]
theorem X0 {env:Env}(hf:env.scope.kind= .function):∀{names:oj (Str×NameKind)}{x:Str},names.lookup x=some .free->env.kindOf x=some .cell->
  (names.map λ(n,k)=>if(k==NameKind.free&&env.scope.kind== .function&&env.kindOf n==some .cell) then(n,NameKind.cell) else(n,k)).lookup x=some .cell
 | [],_,h,_=>by simp at h
 |(n,k)::r,x,h,hc=>by
  have ih:= @X0 env hf r x;show List.lookup x ((if(k==NameKind.free&&env.scope.kind== .function&&env.kindOf n==some .cell)=true then(n,NameKind.cell) else(n,k))::_)=_
  cases O:x==n with
  |true=>
   simp only [uZ,O] at h;cases h;have aa:x=n:=beq_iff_eq.mp O;subst aa;rw [if_pos (by rw [hf,hc];rfl)]
   simp [uZ]
  |false=>
   simp only [uZ,O] at h;by_cases U:(k==NameKind.free&&env.scope.kind== .function&&env.kindOf n==some .cell)=true
   ·rw [if_pos U];simp only [uZ,O];exact ih h hc
   ·rw [if_neg U];simp only [uZ,O];exact ih h hc
theorem ZG {env:Env}:∀{names:oj (Str×NameKind)}{x:Str},(∀y∈names,y.2≠ .cell)->
  ((names.map λ(n,k)=>if(k==NameKind.free&&env.scope.kind== .function&&env.kindOf n==some .cell) then(n,NameKind.cell) else(n,k)).lookup x=some .cell∨
   (names.map λ(n,k)=>if(k==NameKind.free&&env.scope.kind== .function&&env.kindOf n==some .cell) then(n,NameKind.cell) else(n,k)).lookup x=some .free)->(x,NameKind.free)∈names
 | [],_,_,h=>by simp at h
 |(n,k)::r,x,hn,h=>by
  have ih:= @ZG env r x (λy hy=>hn y (ub _ hy));have g:List.lookup x ((if(k==NameKind.free&&env.scope.kind== .function&&env.kindOf n==some .cell)=true then(n,NameKind.cell) else(n,k))::(r.map λ(n,k)=>if(k==NameKind.free&&env.scope.kind== .function&&env.kindOf n==some .cell) then(n,NameKind.cell) else(n,k)))=some .cell∨
   List.lookup x ((if(k==NameKind.free&&env.scope.kind== .function&&env.kindOf n==some .cell)=true then(n,NameKind.cell) else(n,k))::(r.map λ(n,k)=>if(k==NameKind.free&&env.scope.kind== .function&&env.kindOf n==some .cell) then(n,NameKind.cell) else(n,k)))=some .free:=h
  have aa:k≠ .cell:=hn (n,k) ud;by_cases hc:(k==NameKind.free&&env.scope.kind== .function&&env.kindOf n==some .cell)=true
  ·rw [if_pos hc] at g;have hk:k= .free:=by
    rw [ur,ur] at hc
    simpa using hc.1.1
   subst hk;cases U:x==n with
   |true=>
    have O:x=n:=beq_iff_eq.mp U;subst O;exact ud
   |false=>
    simp only [uZ,U] at g;exact ub _ (ih g)
  ·rw [if_neg hc] at g;cases U:x==n with
   |true=>
    have O:x=n:=beq_iff_eq.mp U;subst O;simp only [uZ,U] at g;rcases g with g|g
    ·exact absurd (uE g) aa
    ·rw [show k=NameKind.free from uE g]
     exact ud
   |false=>
    simp only [uZ,U] at g;exact ub _ (ih g)
abbrev blk (X:Cx)(scope:Scope)(Nb:oj Str)(cl:oj (Str×o3))(C:o3)(s₀:o7)(H₀:Hp)(fp:oj o3)(pn:oj (o3×Obj)):Cx:=
 {X with N:=Nb,s₀:=s₀,H₀:=H₀,env:=compEnvC scope cl C X.env,outer:=X.stack,ex:=fp,fn:=λ_=>false,pn:=pn,xe:=λ_ _=>False}
structure LcS (X:Cx)(scope:Scope)(Nb:oj Str)(nt:Nat)(fr:oj Nat):Prop where
 kind:scope.kind= .function
 cell:∀y∈scope.names,y.2≠ .cell
 names:∀y∈scope.names,y.2= .local->scope.names.lookup y.1=some .local
 free:∀y∈scope.names,y.2= .free->X.env.kindOf y.1=some .cell
 len:Nb.length=nt+fr.length
 fr:∀(k j:Nat) (x:Str),fr[k]? =some j->Nb[nt+k]? =some x->X.N[j]? =some x/\scope.names.lookup x=some .free
def sigB (nt:Nat)(fr:oj Nat)(σ:St):St:=List.replicate nt none++fr.map λj=>(σ[j]?).join
theorem HOk.sameBut {P:o9}{w:og}{H:Hp}{h h':o8}{C:o3}(ok:HOk P w H h)(hn:H C=none)(U:Heap.SameBut C h h'):HOk P w H h':=λb ob e=>by
 refine(ok b ob e).stay (λc w' O q=>(U.2 c ?_).trans q) (λ_ q=>q) λ_ _ q=>q;rintro rfl;rcases O with rfl|O
 ·rw [hn] at e;cases e
 ·rw [hn] at O;cases O
section
variable {pr:o9}{wo:og}{ar:oh}{RR:Result->o7->Prop}{st:o7}
abbrev nb (pr:o9)(wo:og)(ar:oh)(en:Env)(RR:Result->o7->Prop):o6->o7->Prop:=notedBy (model pr wo) ar en λx t=>RR (.error x) t
abbrev tsts (en:Env)(cs:oj Expr):Sem Bool:=forIn cs true λc b=>if b=true then do let y<-isTrue c en (eval c en);pure (ForInStep.yield y) else pure (ForInStep.yield b)
theorem compLoop_by {el tg aa:Expr}{cs:oj Expr}{sc:Scope}{ps:Pos}{O U:o6}{en:Env}(J:Nat->o7->Prop)
  (ac:∀k t,J k t->wpAny (model pr wo) ar (pyNext O) (λr t1=>match r with
   |none=>RR (.ok .next) t1
   |some v=>wpAny (model pr wo) ar (letOwnedTupleGo tg O v) (λ_ t2=>wpAny (model pr wo) ar (assign tg en v) (λ_ t3=>wpAny (model pr wo) ar (tsts en cs) (λb t4=>
     if b=true then wpAny (model pr wo) ar (eval el en) (λx t5=>wpAny (model pr wo) ar (call (.builtin "list.append") [U,x]) (λ_ t6=>∃m,m<k/\J m t6) (nb pr wo ar en RR) t5) (nb pr wo ar en RR) t4
     else∃m,m<k/\J m t4) (nb pr wo ar en RR) t3) (nb pr wo ar en RR) t2) (nb pr wo ar en RR) t1) (nb pr wo ar en RR) t)
  (k:Nat) (h0:J k st):codeAny (model pr wo) ar (.compLoop (.ListComp el [⟨tg,aa,cs,(0)⟩] sc ps) 0 O U en) RR st:=by
 refine codeAny_loop rfl J (λk t hJ=> ?_) k h0;show wpAny _ ar ((compTurn (.ListComp el [⟨tg,aa,cs,(0)⟩] sc ps) 0 O U en).onRaise λx=>do noteFrame x en;theTreesLotGoes x) _ _ t
 rw [compTurn_list];refine wpAny_noted (wpAny_bind (wpAny_standAt (wpAny_bind (thn (ac k t hJ) λr t1 q1=> ?_))));cases r with
 |none=>exact um q1
 |some v=>
  refine wpAny_bind (thn q1 λ_ t2 q2=>wpAny_bind (thn q2 λ_ t3 q3=>wpAny_bind (thn q3 λb t4 q4=> ?_)));cases b with
  |false=>exact um ⟨1,q4⟩
  |true=>exact wpAny_bind (wpAny_bind (thn q4 λx t5 q5=>wpAny_bind (thn q5 λ_ t6 q6=>um (um ⟨1,q6⟩))))
end
def PIfs (X:Cx)(ifs:oj Expr)(t:TT):Prop:=
 ∀(oq:oj (o3×Obj)) (s:o7) (σ:St) (H:Hp) (Q:Bool->Hp->Prop),Inv X oq σ H s->t σ H Q->wpAny (model X.prog X.w) X.A (tsts X.env ifs) (TP X oq σ Q) X.xe s
def tYes:TT:=λ_ H Q=>Q true H
theorem Q5 {X:Cx}:PIfs X [] tYes:=λ_ _ _ H _ I h=>wpAny_tests_nil ⟨H,I,h⟩
theorem pif_one {X:Cx}{c:Expr}{t:TT}(h:PT X c t):PIfs X [c] t:=λoq s σ H Q I O=>wpAny_tests_one (h oq s σ H Q I O)
def lcGo (D:o3)(J:It)(g:TG)(tc:TT)(te:TE)(σb:St)(H1:Hp)(Q:VK):Prop:=
 ∃(n:Nat) (W:Nat->St->oj V->Hp->Prop),n<=sizeLine/\W 0 σb [] (upd H1 D (.lst []))/\
  (∀i σ ys H,i<n->W i σ ys H->H D=some (.lst ys)->ys.length<=i->J.go i H/\∀x H',J.yld i H x H'->g x σ H' λσ2 H2=>tc σ2 H2 λb H3=>
   if b=true then te σ2 H3 λy H4=>H4 D=some (.lst ys)/\W (i+1) σ2 (ys++ [y]) (upd H4 D (.lst (ys++ [y]))) else H3 D=some (.lst ys)/\W (i+1) σ2 ys H3)/\
  ∀σ ys H,W n σ ys H->H D=some (.lst ys)->J.stop n H/\Q (.ref D) H
def tLC (nt:Nat)(fr:oj Nat)(wi:TI)(g:TG)(tc:TT)(te:TE):TE:=λσ H Q=>wi σ H λJ H1=>∀D,H1 D=none->lcGo D J g tc te (sigB nt fr σ) H1 Q
section
variable {X:Cx}{scope:Scope}{Nb:oj Str}{nt:Nat}{fr:oj Nat}
theorem inv_blk {oq:oj (o3×Obj)}{σ:St}{H:Hp}{s:o7}{fp:oj o3}{C:o3}{h4:o8}{tk:Nat}(S:LcS X scope Nb nt fr)(I:Inv X oq σ H s)(hC:C=s.heap.objs.size)
  (ah:h4.Ns C λ_=>none) (U:∀b o,s.heap.get? b=some o->h4.get? b=some o) (hf:∀b∈fp,FpOk X oq H b) (ho:∀b∈fp,∃o,s.heap.get? b=some o) (ht:0<tk:=by ac_rfl):
  Inv (blk X scope Nb (clOf X.env.cells scope.names []) C s H fp (X.pn++oq)) [] (sigB nt fr σ) H {s with heap:=h4,toks:=tk}:=by
 subst hC;have sub:∀y c,(clOf X.env.cells scope.names []).lookup y=some c->X.env.cells.lookup y=some c:=Wj λy c e=>by simp at e
 have aa:∀y,(y,NameKind.free)∈scope.names->X.env.kindOf y=some .cell:=λy hy=>S.free _ hy rfl;have ae:∀b o,s.heap.get? b=some o->b≠s.heap.objs.size:=λb o e z=>by rw [z] at e;exact absurd (uw e) (vw _)
 have O:∀b,b≠X.env.locals->b∉X.fs->b∉frs X.stack:=λb h1 h2 z=>(List.mem_cons.mp (I.stkSub b z)).elim h1 h2;refine⟨⟨I.ok.mod,S.kind,I.ok.glob,I.ok.blt,ug _,λx y c h1 h2=>I.ok.inj x y c (sub x c h1) (sub y c h2),λx hx=> ?_,λx c z=>(by cases z),I.ok.hd,I.ok.frames,.inl rfl,λb hb=> ?_,I.bs,uQ I.ok.bsz I.sz,λb o e hb=> ?_,λb hb=> ?_,I.stack,I.stkFree⟩,1,I.bare,Un.kept U,⟨_,ah,λi x v e1 e2 e3=> ?_⟩,λx c e=> ?_,I.hok.fresh (ug _),λx c e=>I.freeC x c (sub x c e),λp hp=> ?_,I.hok.kept U,?_,ht⟩
 ·have hm:=ZG (env:=X.env) S.cell hx;exact WX hm (I.ok.has x (.inl (aa x hm)))
 ·obtain⟨o,e⟩:=ho b hb;exact⟨ae b o e,λx c e'=>(hf b hb).2.2.2.2.1 x c (sub x c e')⟩
 ·rcases(hf b hb).2.2.2.1 with z|z
  ·exact I.ok.noex b o e z
  ·exact absurd (Nat.lt_of_lt_of_le (uw e) (uQ I.ok.bsz z)) (vw _)
 ·exact O b (hf b hb).2.1 (hf b hb).2.2.1
 ·
  have hi:nt<=i:=by
   rcases Nat.lt_or_ge i nt with z|z
   ·unfold sigB at e2;rw [Uk (by simpa using z),List.getElem?_replicate] at e2
    split at e2<;>cases e2
   ·exact z
  obtain⟨k,rfl⟩:∃k,i=nt+k:=⟨i-nt,by omega⟩
  unfold sigB at e2;rw [vG (by simp)] at e2
  simp only [List.length_replicate,Nat.add_sub_cancel_left,uF] at e2;cases ej:fr[k]? with
  |none=>rw [ej] at e2;cases e2
  |some j=>
   rw [ej] at e2;have ac:(σ[j]?).join=some v:=uE e2;have af:σ[j]? =some (some v):=by
    cases q:σ[j]? with
    |none=>rw [q] at ac;cases ac
    |some z=>rw [q] at ac;exact congrArg some ac
   obtain⟨n1,n2⟩:=S.fr k j x ej e1;have kx:X.env.kindOf x=some .cell:=aa x (vq n2);obtain⟨m,hn,hl⟩:=I.loc;obtain⟨u,r,l⟩:=hl j x v n1 af (.inr (.inl kx));refine⟨u,r,.inr ⟨.inl (X0 I.ok.kind n2 kx),?_⟩⟩;rcases l with⟨z,_⟩|⟨_,c,ec,ad⟩
   ·rw [kx] at z;cases z
   ·obtain⟨c',ag⟩:=WX (cells:=X.env.cells) (cs:= []) (vq n2) ⟨c,ec⟩;have:=sub x c' ag;rw [ec] at this;cases this;obtain⟨o,q,d⟩:=ad;exact⟨c,ag,o,U c o q,d⟩
 ·obtain⟨v,o,q,d⟩:=I.cell x c (sub x c e);exact⟨v,o,U c o q,d⟩
 ·have ak:p∈X.pn++oq:=by simpa using hp
  obtain⟨e,n,ne,nf,d⟩:=I.pin p ak;exact⟨U _ _ e,n,ae _ _ e,O _ ne nf,d⟩
 ·show(sigB nt fr σ).length=Nb.length;unfold sigB;rw [S.len];simp
theorem lc_core {tg ac am:Expr}{ao:oj Expr}{wi:TI}{g:TG}{tc:TT}{te:TE}{pos:Pos}{R:o6->o3->Result->o7->Prop}{oq:oj (o3×Obj)}{s:o7}{σ:St}{H:Hp}{Q:VK}(S:LcS X scope Nb nt fr)(ap:X.calm=true)(hi:PI X tg ac wi)
  (hg:∀cl C s₀ H₀ fp pn,PG (blk X scope Nb cl C s₀ H₀ fp pn) tg g) (hc:∀cl C s₀ H₀ fp pn,PIfs (blk X scope Nb cl C s₀ H₀ fp pn) ao tc) (he:∀cl C s₀ H₀ fp pn,PE (blk X scope Nb cl C s₀ H₀ fp pn) am te)
  (I:Inv X oq σ H s) (h:tLC nt fr wi g tc te σ H Q)
  (hR:∀(D C:o3) (H':Hp) (s1:o7) (m:Str->om o6),Inv X oq σ H' s1->s1.heap.Ns C m->FpOk X oq H' C->Q (.ref D) H'->R (.ref D) C (.ok .next) s1):
  wpAny (model X.prog X.w) X.A (eval ac X.env) (λx s₁=>wpAny (model X.prog X.w) X.A (pyIter x) (λit s₂=>wpAny (model X.prog X.w) X.A (newList []) (λay s₃=>
   wpAny (model X.prog X.w) X.A (newFunctionEnv scope X.env.globals (clOf X.env.cells scope.names []) [] X.env.qual none .none (some X.env)) (λah s₄=>
    codeAny (model X.prog X.w) X.A (.compStart (.ListComp am [⟨tg,ac,ao,(0)⟩] scope pos) 0 it ay {ah with scope:=relabel scope X.env}) (R ay ah.locals) s₄) X.xe s₃) X.xe s₂) X.xe s₁) X.xe s:=by
 refine thn (hi oq s σ H _ I h) λv s1 h1=>thn h1 λaT s2 h2=> ?_;obtain⟨it,fp,tn,J,H2,e,I2,T,aq,f2,q2⟩:=h2;subst e;have aA:H2 s2.heap.objs.size=none:=I2.hok.fresh (ug _);obtain⟨n,W,hn,w0,step,fin⟩:=q2 _ aA;generalize hD:s2.heap.objs.size=D at*;refine vd ?_;rw [hD];have I3:Inv X oq σ (upd H2 D (.lst [])) {s2 with heap:=s2.heap.push {cls:= .type "list",data:= .seq ([]:oj o6).toArray}}:=by
  have:=I2.lnew (ys:= []) (its:= []) (t':=s2.toks) .nil (uW _);rw [hD] at this;exact this
 refine wpAny_newFunctionEnv S.cell (by intro y hy;simp at hy) (λh4 ae au=> ?_) S.kind
 dsimp only at ae au⊢;generalize aB:s2.heap.push {cls:= .type "list",dict:=none,data:= .seq ([]:oj o6).toArray}=h3 at ae au I3⊢;have hC:h3.objs.size=D+1:=by rw [<-aB,vh,hD]
 have af:∀b o,h3.get? b=some o->h4.get? b=some o:=λb o e=>au.extBut b o (uI (uw e)) (ua _ e);have aa:∀b o,s2.heap.get? b=some o->h3.get? b=some o:=λb o e=>by rw [<-aB];exact ua _ e
 have aw:∀b∈fp,∃o,s2.heap.get? b=some o:=λb O=>let⟨o,e,_⟩:=T.obj _ _ aq b O;⟨o,e⟩;have aH:∀b∈fp,b≠D:=λb O z=>by
  obtain⟨o,e⟩:=aw b O;have q:=uw e;rw [z,hD] at q;exact vw _ q
 have f3:∀b∈fp,FpOk X oq (upd H2 D (.lst [])) b:=λb O=>⟨by rw [qh (aH b O)];exact(f2 b O).1,(f2 b O).2⟩
 have IB:=inv_blk (C:=h3.objs.size) (h4:=h4) (tk:=s2.toks+([]:oj (Str×o6)).length) (fp:=fp) S I3 rfl ae af f3 λb O=>let⟨o,e⟩:=aw b O;⟨o,aa b o e⟩;generalize U:blk X scope Nb (clOf X.env.cells scope.names []) h3.objs.size {s2 with heap:=h3} (upd H2 D (.lst [])) fp (X.pn++oq)=Xb at IB
 have gB:=hg (clOf X.env.cells scope.names []) h3.objs.size {s2 with heap:=h3} (upd H2 D (.lst [])) fp (X.pn++oq)
 have cB:=hc (clOf X.env.cells scope.names []) h3.objs.size {s2 with heap:=h3} (upd H2 D (.lst [])) fp (X.pn++oq)
 have eB:=he (clOf X.env.cells scope.names []) h3.objs.size {s2 with heap:=h3} (upd H2 D (.lst [])) fp (X.pn++oq)
 rw [U] at gB cB eB;have xP:Xb.prog=X.prog:=by rw [<-U]
 have xW:Xb.w=X.w:=by rw [<-U]
 have xK:Xb.K=X.K:=by rw [<-U]
 have xA:Xb.A=X.A:=by rw [<-U]
 have xC:Xb.calm=true:=by rw [<-U];exact ap
 have xE:Xb.env=compEnvC scope (clOf X.env.cells scope.names []) h3.objs.size X.env:=by rw [<-U]
 have xX:Xb.xe=λ_ _=>False:=by rw [<-U]
 have ag:∀{H':Hp},(∀b∈fp,H' b=none)->∀b∈fp,FpOk Xb [] H' b:=λhn b O=>by
  obtain⟨g1,g2,g3,g4,g5,g6⟩:=f2 b O;obtain⟨o,e⟩:=aw b O;subst U;refine⟨hn b O,λz=> ?_,λz=>(List.mem_cons.mp (I2.stkSub b z)).elim g2 g3,.inl O,λx c ec=>g5 x c (Wj (λy c e=>by simp at e) x c ec),λp hp=>g6 p (by simpa using hp)⟩
  have ad:=uw (aa b o e);have z':b=h3.objs.size:=z;rw [z'] at ad;exact vw _ ad
 have ak:∀s5:o7,s5={s2 with heap:=h4,toks:=s2.toks+([]:oj (Str×o6)).length}->
   codeAny (model X.prog X.w) X.A (.compLoop (.ListComp am [⟨tg,ac,ao,(0)⟩] scope pos) 0 (.ref it) (.ref D) (compEnvC scope (clOf X.env.cells scope.names []) h3.objs.size X.env))
    (R (.ref D) h3.objs.size) s5:=by
  rintro s5 rfl;refine compLoop_by (λk s'=>∃i σ' ys H',Inv Xb [] σ' H' s'/\tn i s'.heap/\(∀b∈fp,H' b=none)/\H' D=some (.lst ys)/\i<=n/\k=n-i/\ys.length<=i/\W i σ' ys H') ?_ n
   ⟨(0),sigB nt fr σ,[],_,IB,T.keep _ _ _ aq λb O o e=>af b o (aa b o e),λb O=>(f3 b O).1,qf,uW _,1,ug _,w0⟩
  rintro k s' ⟨i,σ',ys,H',I',aC,aD,aE,aI,rfl,aJ,w'⟩;rcases Nat.lt_or_ge i n with ad|aK
  ·obtain⟨go,next⟩:=step i σ' ys H' ad w' aE aJ;have ti:=T.item Xb xP xW xK xC i [] s' σ' H' (λ_ _=>False) I' (ag aD) aC go;rw [xA] at ti;refine vg ti (λr s1 h1=> ?_) λ_ _ z=>z.elim;obtain⟨u,rfl,h1⟩:=h1;refine vg h1 (λ_ aF aL=> ?_) λ_ _ z=>z.elim;obtain⟨x,H5,I5,r5,y5,ax,aM⟩:=aL;have aN:=I5.pinned (ag aM) (T.obj _ _ ax);have ga:=gB _ aF σ' H5 x u _ aN r5 (next x H5 y5);rw [xP,xW,xA,xE,xX] at ga;refine vg ga (λ_ s3 aO=> ?_) λ_ _ z=>z.elim;obtain⟨σ6,H6,I6,q6⟩:=aO;have ca:=cB _ s3 σ6 H6 _ I6 q6;rw [xP,xW,xA,xE,xX] at ca;refine vg ca (λok s4 aP=> ?_) λ_ _ z=>z.elim;obtain⟨H7,I7,q7⟩:=aP;have al:∀{σ8:St}{H8:Hp}{s8:o7},Inv Xb ([]++pinsAt fp aF.heap) σ8 H8 s8->Inv Xb [] σ8 H8 s8/\tn (i+1) s8.heap/\∀b∈fp,H8 b=none:=λ{σ8 H8 s8} I8=>by
    refine⟨I8.unpinned,T.keep _ _ _ ax λb O o e=>(I8.pin (b,o) (uL _ (uL _ (Jc O e)))).1,λb O=> ?_⟩;obtain⟨o,e,d⟩:=T.obj _ _ ax b O;exact(I8.pin (b,o) (uL _ (uL _ (Jc O e)))).2.1
   cases ok with
   |false=>
    rw [if_neg u8] at q7⊢;obtain⟨b1,b2,b3⟩:=al I7;exact⟨n-(i+1),by omega,i+1,σ6,ys,H7,b1,b2,b3,q7.1,ad,1,by omega,q7.2⟩
   |true=>
    rw [if_pos rfl] at q7⊢;have ea:=eB _ s4 σ6 H7 _ I7 q7;rw [xP,xW,xA,xE,xX] at ea;refine vg ea (λy s5 h5=> ?_) λ_ _ z=>z.elim;obtain⟨yv,H8,I8,r8,aQ,q8⟩:=h5;have ma:=jP (X:=Xb) _ s5 σ6 H8 (.ref D) [yv] (.ref D) [y] (λ_ H9=>H9=upd H8 D (.lst (ys++ [yv]))) I8 rfl (.cons r8 .nil) ⟨D,ys,yv,1,1,aQ,by omega,1⟩
    rw [xP,xW,xA,xX] at ma;refine vg ma (λ_ s6 h6=> ?_) λ_ _ z=>z.elim;obtain⟨_,H9,I9,_,rfl⟩:=h6;obtain⟨b1,b2,b3⟩:=al I9;exact⟨n-(i+1),by omega,i+1,σ6,ys++ [yv],_,b1,b2,b3,qf,ad,1,by rw [uD,vK];omega,q8⟩
  ·have aG:i=n:=Nat.le_antisymm aI aK;subst aG;obtain⟨stop,hq⟩:=fin σ' ys H' w' aE;have td:=T.done Xb xP xW xK xC i [] s' σ' H' (λ_ _=>False) I' (ag aD) aC stop;rw [xA] at td;refine vg td (λr s1 h1=> ?_) λ_ _ z=>z.elim;obtain⟨rfl,I6⟩:=h1;obtain⟨m,hm,_⟩:=id I6.loc;rw [xE] at hm;have aR:H' h3.objs.size=none:=by have:=I6.free;rw [xE] at this;exact this
   have u6:Un (frs X.stack) fp (upd H2 D (.lst [])) H' h3 s1.heap:=by have:=I6.base;subst U;exact this
   have u2:Un (frs X.stack) fp H2 (upd H2 D (.lst [])) s2.heap h3:=Un.laid (λb o e=>aa b o e) (by rw [hD];exact ug _) aA
   have aS:s1.os=s2.os:=by have:=I6.os;subst U;exact this
   have hok:HOk X.prog X.w H' s1.heap:=by
    have:=I6.hok;subst U;exact this
   refine hR D h3.objs.size H' s1 m (I2.call' (s':=s1) (ch:=fp) aS (u2.trans u6) hok I6.bare λb O=> ?_) hm (I2.fpOk (by omega) aR) hq
   obtain⟨g1,g2,g3,g4,g5,g6⟩:=f2 b O;exact⟨g4,g2,g5,g6⟩
 exact codeAny_compStart_list (ak _ rfl) (T.self _ 0 _ _ _ (T.keep _ _ _ aq λb O o e=>af b o (aa b o e)) (ak _ rfl))
theorem JX {tg O ac:Expr}{ad:oj Expr}{wi:TI}{g:TG}{tc:TT}{te:TE}{pos:Pos}(S:LcS X scope Nb nt fr)(U:X.calm=true)(hi:PI X tg O wi)
  (hg:∀cl C s₀ H₀ fp pn,PG (blk X scope Nb cl C s₀ H₀ fp pn) tg g) (hc:∀cl C s₀ H₀ fp pn,PIfs (blk X scope Nb cl C s₀ H₀ fp pn) ad tc) (he:∀cl C s₀ H₀ fp pn,PE (blk X scope Nb cl C s₀ H₀ fp pn) ac te)
  (hs:∀x,foldedSetIterable O X.env x=pure x):PE X (.ListComp ac [⟨tg,O,ad,(0)⟩] scope pos) (tLC nt fr wi g tc te):=by
 intro oq s σ H Q I h;have aa:closureFor scope X.env=pure (clOf X.env.cells scope.names []):=ww λy hy=>I.ok.has y (.inl (S.free _ hy rfl));rw [eval_ListComp];refine wpAny_comprehension_free (use:=none) rfl hs aa S.kind S.names ?_;refine lc_core (R:=λae C=>compPost (model X.prog X.w) X.A X.xe none (EP X oq σ Q) ae C) S U hi hg hc he I h λD C H' s1 m I1 hm fc q=> ?_;obtain⟨f0,f1,f2,f3,f4,f5⟩:=fc;exact⟨m,hm,λh' af=>⟨.ref D,H',I1.turned (t':=s1.toks) (it:=C) (λb o hb e=>(af.2 b hb).trans e) f0 f1 f3 f4 f5,1,q⟩⟩
theorem ps_setLC {i:Nat}{y:Str}{tg O U:Expr}{aa:oj Expr}{wi:TI}{g:TG}{tc:TT}{te:TE}{pos ac py:Pos}(hN:X.N.Nodup)(af:X.N[i]? =some y)(hy:Loc X.env.scope y)(S:LcS X scope Nb nt fr)(ad:X.calm=true)(hi:PI X tg O wi)
  (hg:∀cl C s₀ H₀ fp pn,PG (blk X scope Nb cl C s₀ H₀ fp pn) tg g) (hc:∀cl C s₀ H₀ fp pn,PIfs (blk X scope Nb cl C s₀ H₀ fp pn) aa tc) (he:∀cl C s₀ H₀ fp pn,PE (blk X scope Nb cl C s₀ H₀ fp pn) U te)
  (hs:∀x,foldedSetIterable O X.env x=pure x) (ag:swapsWith (.ListComp U [⟨tg,O,aa,(0)⟩] scope pos) (some (.Name y py)) ac.line X.env=pure true)
  (hf:X.fn y=true∨X.env.scope.names.lookup y=some .local):
  PS X (.Assign [.Name y py] (.ListComp U [⟨tg,O,aa,(0)⟩] scope pos) ac) (tAsg (tLC nt fr wi g tc te) (YC i)):=by
 intro oq s σ H D I h;have ae:closureFor scope X.env=pure (clOf X.env.cells scope.names []):=ww λy hy=>I.ok.has y (.inl (S.free _ hy rfl));rw [exec_Assign_Name_used _ _ _ _ ag];refine wpAny_bind (wpAny_standAt (wpAny_bind ?_));show wpAny _ X.A (do let _<-comprehension (.ListComp U [⟨tg,O,aa,(0)⟩] scope pos) scope X.env _ (newList []) false (eval O X.env) (some (assign (.Name y py) X.env))) _ _ s
 refine wpAny_bind (vg (wpAny_comprehension_free (use:=some (assign (.Name y py) X.env)) (Q:=λ_ s'=>SP X oq D .next s') rfl hs ae S.kind S.names ?_) (λ_ s' hq=>um (um hq)) λ_ _ e=>e);refine lc_core (R:=λah C=>compPost (model X.prog X.w) X.A X.xe (some (assign (.Name y py) X.env)) (λ_ s'=>SP X oq D .next s') ah C) S ad hi hg hc he I h λA C H' s1 m I1 hm fc q=> ?_;obtain⟨f0,f1,f2,f3,f4,f5⟩:=fc;show wpAny _ X.A (assign (.Name y py) X.env (.ref A)) _ _ s1;refine wpAny_assign_Name (store_ok2 (v:= .ref A) I1 hN af hy (show RelV (.ref A) (.ref A) from rfl) (λs' I' ⟨a,sb,ha⟩=> ?_) hf)
 have ak:C≠a:=by
  rcases ha with rfl|ha
  ·exact f1
  ·exact λz=>f4 y a ha z.symm
 refine⟨m,hm.sameBut sb ak,λh' al=>⟨_,H',I'.turned (t':=s'.toks) (it:=C) (λb o hb e=>(al.2 b hb).trans e) f0 f1 f3 f4 f5,q⟩⟩
end
theorem lcs0 {X:Cx}{sc:Scope}{x:Str}(O:sc.kind= .function:=by rfl)(U:∀y∈sc.names,y.2≠ .cell:=by decide+kernel)(hn:∀y∈sc.names,y.2= .local->sc.names.lookup y.1=some .local:=by decide+kernel)
  (hf:∀y∈sc.names,y.2≠ .free:=by decide+kernel):LcS X sc [x] 1 []:=⟨O,U,hn,λy hy e=>absurd e (hf y hy),1,λk j x h=>by simp at h⟩
theorem lcsN {X:Cx}{sc:Scope}{Nb:oj Str}{nt:Nat}{fr:oj Nat}(O:Scope)(U:oj Str)(hX:X.env.scope=O:=by rfl)(hN:X.N=U:=by rfl)(hk:sc.kind= .function:=by rfl)(hc:∀y∈sc.names,y.2≠ .cell:=by decide+kernel)
  (hn:∀y∈sc.names,y.2= .local->sc.names.lookup y.1=some .local:=by decide+kernel) (hf:∀y∈sc.names,y.2= .free->O.names.lookup y.1=some .cell:=by decide+kernel) (hl:Nb.length=nt+fr.length:=by rfl)
  (hz:((fr.zip (Nb.drop nt)).all λp=>decide (U[p.1]? =some p.2)&&decide (sc.names.lookup p.2=some .free))=true:=by decide+kernel):LcS X sc Nb nt fr:=by
 subst hX hN;refine⟨hk,hc,hn,hf,hl,λk j x h1 h2=> ?_⟩;have hm:(fr.zip (Nb.drop nt))[k]? =some (j,x):=by
  rw [List.getElem?_zip_eq_some];exact⟨h1,by rw [List.getElem?_drop];exact h2⟩
 have q:=List.all_eq_true.mp hz _ (uS hm);rw [ur] at q;exact⟨uh q.1,uh q.2⟩
theorem lc_str {z:Str}{D:o3}{H1:Hp}{te:TE}{tl:St}{Q:VK}(f:Nat->V)(hz:z.length<=sizeLine)(hD:H1 D=none)
  (O:∀(i c:Nat) H (R:VK),z.cps[i]? =some c->Same H1 H->R (f c) H->te (some (.str ⟨#[c]⟩)::tl) H R)
  (hQ:∀H',Same H1 H'->H' D=some (.lst (z.cps.toList.map f))->Q (.ref D) H'):lcGo D (Its z) (YC 0) tYes te (none::tl) H1 Q:=by
 refine⟨z.cps.size,λi σ ys H=>(∃w,σ=w::tl)/\ys=(z.cps.toList.take i).map f/\Same H1 H,hz,⟨⟨none,1⟩,1,qg hD _⟩,?_,?_⟩
 ·rintro i σ ys H hi ⟨⟨w,rfl⟩,rfl,sm⟩ U hy;refine⟨hi,?_⟩;rintro x H' ⟨rfl,c,hc,rfl⟩;dsimp only [YC,tYes,List.set];rw [if_pos rfl];refine O i c H' _ hc sm ⟨U,⟨some (.str ⟨#[c]⟩),1⟩,?_,?_⟩
  ·rw [vv,show z.cps.toList[i]? =some c by simpa using hc]
   simp
  ·intro b o e;rw [qh (qj e hD)];exact sm b o e
 ·rintro σ ys H ⟨_,rfl,sm⟩ U;refine⟨1,hQ H sm ?_⟩;rw [U,v9 (by simp)]
mutual
def Is (H:Hp):D->V->Prop
 | .non,v=>v= .non
 | .bl b,v=>v= .bl b
 | .int i,v=>v= .int i
 | .str z,v=>v= .str z/\z.length<=sizeLine
 | .lst,v=>∃a xs,v= .ref a/\H a=some (.lst xs)
 | .dct,v=>∃a kvs,v= .ref a/\H a=some (.dK kvs)
 | .tup xs,v=>∃a vs,v= .ref a/\H a=some (.tup vs)/\IsL H xs vs
def IsL (H:Hp):oj D->oj V->Prop
 | [],vs=>vs= []
 |x::xs,vs=>∃v r,vs=v::r/\Is H x v/\IsL H xs r
end
structure Tk (H H':Hp):Prop where
 tup:∀b xs,H b=some (.tup xs)->H' b=some (.tup xs)
 lst:∀b xs,H b=some (.lst xs)->∃ys,H' b=some (.lst ys)
 dct:∀b xs,H b=some (.dK xs)->∃ys,H' b=some (.dK ys)
theorem Same.tk {H H':Hp}(s:Same H H'):Tk H H':=⟨λb xs e=>s b _ e,λb xs e=>⟨xs,s b _ e⟩,λb xs e=>⟨xs,s b _ e⟩⟩
theorem Tk.refl (H:Hp):Tk H H:=(Same.refl H).tk
theorem Tk.trans {H H1 H2:Hp}(a:Tk H H1)(b:Tk H1 H2):Tk H H2:=⟨λc xs e=>b.tup c xs (a.tup c xs e),λc xs e=>let⟨ys,e1⟩:=a.lst c xs e;b.lst c ys e1,λc xs e=>let⟨ys,e1⟩:=a.dct c xs e;b.dct c ys e1⟩
theorem Kept.tk {p:o3}{H H':Hp}{xs ys:oj V}(k:Kept p H H')(h:H p=some (.lst xs))(h':H' p=some (.lst ys)):Tk H H':=by
 refine⟨λb zs e=>k b _ e λz=> ?_,λb zs e=> ?_,λb zs e=>⟨zs,k b _ e λz=> ?_⟩⟩
 ·rw [z,h] at e;cases e
 ·by_cases z:b=p
  ·exact⟨ys,z▸h'⟩
  ·exact⟨zs,k b _ e z⟩
 ·rw [z,h] at e;cases e
mutual
theorem Is.mono {H H':Hp}(t:Tk H H'):∀{d:D}{v:V},Is H d v->Is H' d v
 | .non,_,h=>h
 | .bl _,_,h=>h
 | .int _,_,h=>h
 | .str _,_,h=>h
 | .lst,_,h=>by
  obtain⟨a,vs,e,ha⟩:=h;obtain⟨ys,q⟩:=t.lst a vs ha;exact⟨a,ys,e,q⟩
 | .dct,_,h=>by
  obtain⟨a,vs,e,ha⟩:=h;obtain⟨ys,q⟩:=t.dct a vs ha;exact⟨a,ys,e,q⟩
 | .tup xs,_,h=>by
  obtain⟨a,vs,e,ha,O⟩:=h;exact⟨a,vs,e,t.tup a vs ha,IsL.mono t O⟩
theorem IsL.mono {H H':Hp}(t:Tk H H'):∀{ds:oj D}{vs:oj V},IsL H ds vs->IsL H' ds vs
 | [],_,h=>h
 |_::_,_,h=>by
  obtain⟨v,r,e,h1,h2⟩:=h;exact⟨v,r,e,Is.mono t h1,IsL.mono t h2⟩
end
theorem IsL.length {H:Hp}:∀{ds:oj D}{vs:oj V},IsL H ds vs->vs.length=ds.length
 | [],_,h=>by cases(show _= [] from h);rfl
 |_::_,_,h=>by
  obtain⟨v,r,rfl,_,h2⟩:=h;rw [ui,ui,IsL.length h2]
theorem IsL.get {H:Hp}:∀{ds:oj D}{vs:oj V}{i:Nat}{d:D},IsL H ds vs->ds[i]? =some d->∃v,vs[i]? =some v/\Is H d v
 | [],_,_,_,_,e=>by simp at e
 |x::_,_,0,d,h,e=>by
  obtain⟨v,r,rfl,h1,_⟩:=h;have:x=d:=by simpa using e
  exact⟨v,1,this▸h1⟩
 |_::_,_,i+1,d,h,e=>by
  obtain⟨v,r,rfl,_,h2⟩:=h;obtain⟨u,O,e2⟩:=IsL.get (i:=i) (d:=d) h2 (by simpa using e)
  exact⟨u,by simpa using O,e2⟩
theorem IsL.append {H:Hp}:∀{ds es:oj D}{vs us:oj V},IsL H ds vs->IsL H es us->IsL H (ds++es) (vs++us)
 | [],_,_,_,h,k=>by cases(show _= [] from h);exact k
 |_::_,_,_,_,h,k=>by
  obtain⟨v,r,rfl,h1,h2⟩:=h;exact⟨v,0,h1,IsL.append h2 k⟩
theorem IsL.one {H:Hp}{d:D}{v:V}(h:Is H d v):IsL H [d] [v]:=⟨v,[],1,h,1⟩
theorem Is.new {H:Hp}{ds:oj D}{vs:oj V}{p:o3}(h:IsL H ds vs)(O:H p=none):Is (upd H p (.tup vs)) (.tup ds) (.ref p):=
 ⟨p,vs,1,qf,h.mono (qg O _).tk⟩
def tyD:D->o6
 | .non=> .type "NoneType"
 | .bl _=> .type "bool"
 | .int _=> .type "int"
 | .str _=> .type "str"
 | .lst=> .type "list"
 | .dct=> .type "dict"
 | .tup _=> .type "tuple"
theorem Is.ty {K:o0}{H:Hp}{d:D}{v:V}(h:Is H d v):TyOf K H v (tyD d):=by
 cases d with
 |non=>cases(show v= .non from h);exact .non
 |bl b=>cases(show v= .bl b from h);exact .bl b
 |int i=>cases(show v= .int i from h);exact .int i
 |str z=>
  obtain⟨rfl,_⟩:=h;exact .str z
 |lst=>
  obtain⟨a,vs,rfl,ha⟩:=h;exact .lst ha
 |dct=>
  obtain⟨a,vs,rfl,ha⟩:=h;exact .dK ha
 |tup xs=>
  obtain⟨a,vs,rfl,ha,_⟩:=h;exact .tup ha
section
variable {X:Cx}
theorem op_gt_str:OpR X (compareOp .Gt) (λx y H Q=>∃i j,x= .str i/\y= .str j/\Q (.bl (decide (j.cps.toList<i.cps.toList))) H):=by
 intro oq s σ H x y v u Q I O U h;obtain⟨i,j,rfl,rfl,q⟩:=h;obtain⟨t,rfl⟩:=O;obtain⟨t',rfl⟩:=U;exact PySem.P.gt_str (Qb I q rfl)
theorem call_sumL (hc:X.calm=true):y6 X (.builtin "sum") (λxs H Q=>∃(p:o3) (ns:oj Int),xs= [.ref p]/\SqL X.K H p (ns.map V.int)/\Q (.int ns.sum) H):=by
 intro oq s σ H xs us Q I r h;obtain⟨p,ns,rfl,hp,q⟩:=h;obtain⟨u,rfl,ru⟩:=JZ r;cases ru;obtain⟨its,rv,pl,hz⟩:=I.list hp;have hi:IntsAre its ns:=intsAre_of rv;obtain⟨ys,U⟩:=hi.allInts.items;have O:s.heap.IsList p (intItems ys):=U▸pl.isList;refine uN (n:=1) I.tk (sum_intListG (I.ok.hd hc) O λh' tk t' hk=> ?_);intro htk;have e1:ns=ys.toList.map (·.1):=by
  have q1:=hi.numsOf;rw [<-nums_intItems,<-U];exact(show numsOf its.toArray.toList=ns from q1).symm
 have e2:preSum (numAt ys) ys.size=ns.sum:=by
  rw [preSum_eq,v9 (by simp),e1]
 rw [e2];exact⟨.int ns.sum,H,I.kept hk,⟨t',1⟩,q⟩
def rEqNil (K:o0):R2:=λx y H Q=>∃a b xs,x= .ref a/\y= .ref b/\SqT K H a xs/\SqT K H b []/\Q (.bl xs.isEmpty) H
theorem op_eqNil (U:X.A.units<cLine):OpR X (compareOp .Eq) (rEqNil X.K):=by
 intro oq s σ H x y v u Q I rx ry h;obtain⟨a,b,xs,rfl,rfl,ha,hb,q⟩:=h;cases rx;cases ry;obtain⟨its,r,p,_⟩:=I.tuple ha;obtain⟨O,r2,p2,_⟩:=I.tuple hb;cases r2;refine SeqAt.eq_tupleAt (e:=λ_=>true) p p2 U (λj _ h2=>absurd h2 (Nat.not_lt_zero _)) ⟨.bl xs.isEmpty,H,I,?_,q⟩;show Value.bool _=Value.bool _;cases r with
 |nil=>rfl
 |cons _ _=>simp
def rCatG (K:o0):R2:=λx y H Q=>∃a b xs ys,x= .ref a/\y= .ref b/\SqT K H a xs/\SqT K H b ys/\xs.length+ys.length<=sizeLine/\
 (xs= []->Q (.ref b) H)/\(xs≠ []->ys= []->Q (.ref a) H)/\(xs≠ []->ys≠ []->∀p,H p=none->Q (.ref p) (upd H p (.tup (xs++ys))))
theorem zO:OpR X (binaryOp .Add) (rCatG X.K):=by
 intro oq s σ H x y v u Q I U ry h;obtain⟨a,b,xs,ys,rfl,rfl,ha,hb,hz,q0,q1,q2⟩:=h;by_cases O:xs= []
 ·cases U;cases ry;obtain⟨its,r1,p1,_⟩:=I.tuple ha;obtain⟨aa,r2,p2,_⟩:=I.tuple hb;subst O;cases r1;obtain⟨⟨c1,d1,t1,l1⟩,o1,e1,n1,f1⟩:=id p1;obtain⟨⟨c2,d2,t2,l2⟩,o2,e2,n2,f2⟩:=id p2;simp only at e1 f1 e2 f2;subst e1 f1 e2 f2;exact concat_meets p1.typeIs p2.typeIs noFill_tuple_add seq_tuple_add PySem.F.slot_tuple_add Us (Uo _ _) (tuple_addW0 a b _ _ n1 n2 d1 d2 l1 l2 rfl) ⟨o1,o2,⟨.ref b,H,I,1,q0 rfl⟩⟩
 ·exact op_catT oq s σ H (.ref a) (.ref b) v u Q I U ry ⟨a,b,xs,ys,1,1,ha,hb,O,hz,q1 O,q2 O⟩
end
theorem Tk.updL {H:Hp}{p:o3}{xs ys:oj V}(h:H p=some (.lst xs)):Tk H (upd H p (.lst ys)):=by
 refine⟨λb zs e=> ?_,λb zs e=> ?_,λb zs e=>⟨zs,?_⟩⟩
 ·rw [qh (λz=>by rw [z,h] at e;cases e)];exact e
 ·by_cases z:b=p
  ·exact⟨ys,by rw [z];exact qf⟩
  ·exact⟨zs,by rw [qh z];exact e⟩
 ·rw [qh (λz=>by rw [z,h] at e;cases e)];exact e
theorem lc_data {J:It}{A:o3}{H1:Hp}{te:TE}{tl:St}{Q:VK}{ds:oj D}(f:D->D)(hn:ds.length<=sizeLine)(hA:H1 A=none)
  (aa:∀i H,Same H1 H->i<ds.length->J.go i H) (hy:∀i H x H' d,Same H1 H->ds[i]? =some d->J.yld i H x H'->H'=H/\Is H d x) (U:∀H,Same H1 H->J.stop ds.length H)
  (ac:∀d x H (R:VK),d∈ds->Same H1 H->Is H d x->(∀y H',Same H H'->Is H' (f d) y->R y H')->te (some x::tl) H R)
  (hQ:∀H' ys,Same H1 H'->H' A=some (.lst ys)->IsL H' (ds.map f) ys->Q (.ref A) H'):lcGo A J (YC 0) tYes te (none::tl) H1 Q:=by
 refine⟨ds.length,λi σ ys H=>(∃w,σ=w::tl)/\IsL H ((ds.take i).map f) ys/\Same H1 H,hn,⟨⟨none,1⟩,1,qg hA _⟩,?_,?_⟩
 ·rintro i σ ys H hi ⟨⟨w,rfl⟩,hl,sm⟩ O ae;refine⟨aa i H sm hi,λx H' y=> ?_⟩;obtain⟨rfl,hx⟩:=hy i H x H' ds[i] sm (uf hi) y;dsimp only [YC,tYes,List.set];rw [if_pos rfl];refine ac ds[i] x H' _ (uT hi) sm hx λy' H4 s4 ad=>⟨s4 _ _ O,⟨some x,1⟩,?_,λb o e=> ?_⟩
  ·have t:Tk H4 (upd H4 A (.lst (ys++ [y']))):=Tk.updL (s4 _ _ O);have e:(ds.take (i+1)).map f=(ds.take i).map f++ [f ds[i]]:=by
    rw [vv,uf hi,uu]
    rfl
   rw [e];exact((hl.mono s4.tk).mono t).append (IsL.one (ad.mono t))
  ·rw [qh (qj e hA)];exact s4 b o (sm b o e)
 ·rintro σ ys H ⟨_,hl,sm⟩ O;refine⟨U H sm,hQ H ys sm O ?_⟩;rw [v9 (ug _)] at hl;exact hl
theorem WV {K:o0}{a A:o3}{H1:Hp}{te:TE}{tl:St}{Q:VK}{ds:oj D}{vs:oj V}(f:D->D)(ha:H1 a=some (.tup vs))(U:IsL H1 ds vs)(hn:ds.length<=sizeLine)(hA:H1 A=none)
  (O:∀d x H (R:VK),d∈ds->Same H1 H->Is H d x->(∀y H',Same H H'->Is H' (f d) y->R y H')->te (some x::tl) H R)
  (hQ:∀H' ys,Same H1 H'->H' A=some (.lst ys)->IsL H' (ds.map f) ys->Q (.ref A) H'):lcGo A (Itt K a) (YC 0) tYes te (none::tl) H1 Q:=by
 have ln:=U.length;refine lc_data f hn hA (λi H sm hi=>⟨vs,vs[i]'(by omega),SqT.of (sm _ _ ha),uf _⟩) (λi H x H' d sm hd y=> ?_) (λH sm=>⟨vs,SqT.of (sm _ _ ha),by omega⟩) O hQ
 obtain⟨rfl,y⟩:=y;obtain⟨v,e1,e2⟩:=U.get hd;have e3:=y vs (SqT.of (sm _ _ ha));rw [e1] at e3;cases e3;exact⟨1,e2.mono sm.tk⟩
theorem lc_lstS {K:o0}{a A:o3}{H1:Hp}{te:TE}{tl:St}{Q:VK}{ds:oj D}{vs:oj V}(f:D->D)(ha:H1 a=some (.lst vs))(U:IsL H1 ds vs)(hn:ds.length<=sizeLine)(hA:H1 A=none)
  (O:∀d x H (R:VK),d∈ds->Same H1 H->Is H d x->(∀y H',Same H H'->Is H' (f d) y->R y H')->te (some x::tl) H R)
  (hQ:∀H' ys,Same H1 H'->H' A=some (.lst ys)->IsL H' (ds.map f) ys->Q (.ref A) H'):lcGo A (Itl K a) (YC 0) tYes te (none::tl) H1 Q:=by
 have ln:=U.length;refine lc_data f hn hA (λi H sm hi=>⟨vs,vs[i]'(by omega),SqL.of (sm _ _ ha),uf _⟩) (λi H x H' d sm hd y=> ?_) (λH sm=>⟨vs,SqL.of (sm _ _ ha),by omega⟩) O hQ
 obtain⟨rfl,y⟩:=y;obtain⟨v,e1,e2⟩:=U.get hd;have e3:=y vs (SqL.of (sm _ _ ha));rw [e1] at e3;cases e3;exact⟨1,e2.mono sm.tk⟩
theorem IsL.bls {H:Hp}:∀{bs:oj Bool}{vs:oj V},IsL H (bs.map D.bl) vs->vs=bs.map V.bl
 | [],_,h=>h
 |_::_,_,h=>by
  obtain⟨v,r,rfl,h1,h2⟩:=h;rw [IsL.bls h2,show v=_ from h1];rfl
theorem JO {K:o0}{H:Hp}{ds:oj D}{v:V}{i:Int}{d:D}{Q:VK}(h:Is H (.tup ds) v)(hi:atI ds i=some d)(q:∀x,Is H d x->Q x H):rIxT K v (.int i) H Q:=by
 obtain⟨a,vs,rfl,ha,O⟩:=h;obtain⟨j,h1,h2,h3,h4,h5⟩:=WD hi;obtain⟨x,e1,e2⟩:=O.get h2;refine⟨a,vs,i,x,1,1,SqT.of ha,?_,q x e2⟩;have ln:=O.length;unfold atI at hi⊢;rw [ln];cases e:ixN ds.length i with
 |none=>rw [e] at hi;cases hi
 |some k=>
  rw [e] at hi;obtain⟨U,_⟩:=ixN_seq e;rw [h1] at U;cases U;exact e1
noncomputable def inS (i j:Str):Bool:= !(Builtin.Str.occurrences j i 0 j.length 1).isEmpty
theorem inS_one (j:Str)(c:Nat):inS ⟨#[c]⟩ j=decide (c∈j.cps.toList):=StrLaws.found_one j c
theorem for_str {z:Str}{g:TG}{tb:TS}{E:Ends}{σ:St}{H:Hp}(O:Nat->St->Hp->Prop)(h0:O 0 σ H)
  (hs:∀(i c:Nat) σ H,z.cps[i]? =some c->O i σ H->g (.str ⟨#[c]⟩) σ H λσ2 H2=>tb {E with nx:=O (i+1),ct:=O (i+1),bk:=E.nx} σ2 H2) (hd:∀σ H,O z.cps.size σ H->E.nx σ H):
  ∃W:Nat->Nat->St->Hp->Prop,(∃m,W 0 m σ H)/\∀i m σ H,W i m σ H->
   ((Its z).stop i H/\E.nx σ H)∨((Its z).go i H/\∃N:St->Hp->Prop,(∀σ' H',N σ' H'->∃m',m'<m/\W (i+1) m' σ' H')/\∀x H',(Its z).yld i H x H'->g x σ H' λσ2 H2=>tb {E with nx:=N,ct:=N,bk:=E.nx} σ2 H2):=by
 refine⟨λi m σ H=>m=z.cps.size-i/\i<=z.cps.size/\O i σ H,⟨z.cps.size,by simp,uW _,h0⟩,?_⟩
 rintro i m σ H ⟨rfl,hi,p⟩;by_cases U:i<z.cps.size
 ·refine .inr ⟨U,O (i+1),λσ' H' p'=>⟨z.cps.size-(i+1),by omega,1,U,p'⟩,λx H' y=> ?_⟩
  obtain⟨rfl,c,hc,rfl⟩:=y;exact hs i c σ _ hc p
 ·have e:i=z.cps.size:=by omega
  exact .inl ⟨e,hd σ H (e▸p)⟩
theorem IsL.unsnoc {H:Hp}:∀{ds:oj D}{d:D}{vs:oj V},IsL H (ds++ [d]) vs->∃us x,vs=us++ [x]/\IsL H ds us/\Is H d x
 | [],d,_,h=>by
  obtain⟨v,r,rfl,h1,h2⟩:=h;cases(show r= [] from h2)
  exact⟨[],v,1,1,h1⟩
 |e::r,d,_,h=>by
  obtain⟨v,q,rfl,h1,h2⟩:=h;obtain⟨us,x,rfl,O,h4⟩:=IsL.unsnoc h2;exact⟨v::us,x,1,⟨v,us,1,h1,O⟩,h4⟩
noncomputable def isStr:D->Bool
 | .str _=>true
 |_=>false
def xN:D->Bool
 | .tup _=>true
 |_=>false
section
variable {K:o0}
theorem kit_no {T U:String}{b:Bool}(h:(Value.type T==Value.type U)=false)(hm:PySem.W.kitMeta U=true)(O:(fastBuiltinMro T).map (·.contains (Value.type U))=some b):PySem.W.kitOne K (.type T) (.type U)=some b:=by
 unfold PySem.W.kitOne;rw [if_neg (by rw [h];exact u8)]
 show(if PySem.W.kitMeta U=true then PySem.W.subIn K (.type T) (.type U) else none)=some b
 rw [if_pos hm];exact O
theorem kit_self {T:String}(h:(Value.type T==Value.type T)=true):PySem.W.kitOne K (.type T) (.type T)=some true:=by
 unfold PySem.W.kitOne;rw [if_pos h]
theorem YN (d:D):PySem.W.kitOne K (tyD d) (.type "str")=some (isStr d):=by
 cases d with
 |str z=>exact kit_self (by decide)
 |_=>exact kit_no (b:=false) (by decide) (by decide+kernel) (by decide+kernel)
theorem jL (d:D):PySem.W.kitOne K (tyD d) (.type "tuple")=some (xN d):=by
 cases d with
 |tup z=>exact kit_self (by decide)
 |_=>exact kit_no (b:=false) (by decide) (by decide+kernel) (by decide+kernel)
end
theorem lt_one (c k:Nat):decide ((⟨#[c]⟩:Str).cps.toList< [k])=decide (c<k):=by
 rw [uR];simp [List.cons_lt_cons_iff]
theorem one_gt (c k:Nat):decide ([k]<(⟨#[c]⟩:Str).cps.toList)=decide (k<c):=by
 rw [uR];simp [List.cons_lt_cons_iff]
theorem Zu {X:Cx}{K:o0}(h:X.K=K):IxR X (rIxT K):=by subst h;exact qJ
def iTupB (K:o0)(tl:TE):TI:=λσ H R=>tl σ H λx H1=>∃a xs,x= .ref a/\SqT K H1 a xs/\(xs.length<=sizeLine->R (Itt K a) H1)
theorem zS {X:Cx}{tg l:Expr}{tl:TE}(U:PE X l tl):PI X tg l (iTupB X.K tl):=by
 intro oq s σ H R I h;refine thn (U oq s σ H _ I h) λv s1 ⟨x,H1,O,r1,q1⟩=> ?_;obtain⟨a,xs,e,hq,q⟩:=q1;subst e;cases r1;obtain⟨its,rv,p,hz⟩:=O.tuple hq;refine wpAny_pyIter_tuple (show s1.heap.IsTuple a its.toArray from p) ?_
 refine⟨s1.heap.objs.size,[s1.heap.objs.size],_,_,H1,1,O.kept (t':=s1.toks) λb o e=>ua _ e,wj a _,⟨_,uz _ rfl,1,1⟩,λb hb=> ?_,q hz⟩;have e:b=s1.heap.objs.size:=by simpa using hb
 subst e;exact O.fpOk (ug _) (O.hok.fresh (ug _))
theorem call_lenB {X:Cx}:y6 X (.builtin "len") (λxs H Q=>∃p ys,xs= [.ref p]/\(SqL X.K H p ys∨SqT X.K H p ys)/\(ys.length<=sizeLine->Q (.int ys.length) H)):=by
 intro oq s σ H xs us Q I r h;obtain⟨p,ys,e,O,q⟩:=h;have U:ys.length<=sizeLine:=by
  rcases O with O|O
  ·exact(I.list O).choose_spec.2.2
  ·exact(I.tuple O).choose_spec.2.2
 exact qR oq s σ H xs us Q I r ⟨p,ys,e,O,q U⟩
theorem cutV_drop {xs:oj V}{n:Nat}(h:n<=xs.length):cutV xs (some (n:Int)) none=xs.drop n:=by
 unfold cutV;rw [HT.sIx_none,HT.sIx_nat,Nat.min_eq_left h];exact v9 (by rw [vI];exact ug _)
end L2
namespace L2
open PySem PySem.Spec PyProof.Rows Builtin Builtin.Str
noncomputable def posL (c:Nat):oj Nat->Nat->oj Nat
 | [],_=> []
 |a::r,i=>if a=c then i::posL c r (i+1) else posL c r (i+1)
noncomputable def cutL (c:Nat):Nat->oj Nat->oj (oj Nat)
 |0,L=> [L]
 |_+1,[]=> [[]]
 |n+1,a::r=>if a=c then []::cutL c n r else match cutL c (n+1) r with
  |p::q=>(a::p)::q
  | []=> [[a]]
def ofL (l:oj Nat):Str:=⟨l.toArray⟩
theorem QS (z:Str):ofL z.cps.toList=z:=by
 unfold ofL;simp
theorem jS (c:Nat):∀(n:Nat) (L:oj Nat),∃p q,cutL c n L=p::q
 |0,L=>⟨L,[],by simp [cutL]⟩
 |n+1,[]=>⟨[],[],by simp [cutL]⟩
 |n+1,a::r=>by
  by_cases h:a=c
  ·exact⟨[],cutL c n r,by simp [cutL,h]⟩
  ·obtain⟨p,q,e⟩:=jS c (n+1) r;exact⟨a::p,q,by simp [cutL,h,e]⟩
theorem cutL_app {c:Nat}{n:Nat}{r:oj Nat}:∀{p:oj Nat},c∉p->cutL c (n+1) (p++c::r)=p::cutL c n r
 | [],_=>by simp [cutL]
 |a::p,h=>by
  have h1:a≠c:=λe=>h (by simp [e])
  have O:=cutL_app (n:=n) (r:=r) (p:=p) (λz=>h (ub _ z));show cutL c (n+1) (a::(p++c::r))=_;rw [cutL,if_neg h1,O]
theorem Zw {c:Nat}{n:Nat}:∀{p:oj Nat},c∉p->cutL c n p= [p]
 | [],_=>by cases n<;>simp [cutL]
 |a::p,h=>by
  have h1:a≠c:=λe=>h (by simp [e])
  cases n with
  |zero=>simp [cutL]
  |succ n=>
   have O:=Zw (n:=n+1) (p:=p) (λz=>h (ub _ z));rw [cutL,if_neg h1,O]
theorem subAt_sign (x:Str)(c i:Nat)(h:i<x.length):subAt x ⟨#[c]⟩ i=decide (x.cps.toList[i]? =some c):=by
 rw [StrLaws.subAt_eq];have O:i<x.cps.toList.length:=by simpa [Str.length] using h
 have U:(x.cps.toList.drop i).take 1= [x.cps.toList[i]]:=by
  rw [v7 O]
  rfl
 show((x.cps.toList.drop i).take 1== [c])=_;rw [U,uf O];generalize x.cps.toList[i]=k;by_cases e:k=c
 ·simp [e]
 ·simp [e]
theorem occ_go (x:Str)(c n:Nat):∀(m k:Nat) (found:Array Nat) (free:Nat),k+m=x.length+1->free<=k->
  (forIn (List.range' k m) (found,free) (StrLaws.occBody x ⟨#[c]⟩ x.length n)).run.fst.toList=found.toList++(posL c (x.cps.toList.drop k) k).take (n-found.size)
 |0,k,found,free,hk,_=>by
  have hl:x.cps.toList.length<=k:=by simp [Str.length] at hk⊢;omega
  rw [U2 hl];simp [posL]
 |m+1,k,found,free,hk,hf=>by
  rw [List.range'_succ,Ue];unfold StrLaws.occBody;have ad:x.cps.toList.length=x.length:=by simp [Str.length]
  by_cases aa:k<x.length
  ·have ac:k<x.cps.toList.length:=by omega
   rw [v7 ac];have hs:=subAt_sign x c k aa;rw [uf ac] at hs;by_cases e:x.cps.toList[k]=c
   ·have O:subAt x ⟨#[c]⟩ k=true:=by rw [hs,e];simp
    by_cases hn:found.size<n
    ·rw [if_pos ⟨⟨⟨hn,hf⟩,by show k+1<=x.length;omega⟩,O⟩]
     have U:=occ_go x c n m (k+1) (found.push k) (k+1) (by omega) (ug _)
     show(forIn (List.range' (k+1) m) (found.push k,k+1) (StrLaws.occBody x ⟨#[c]⟩ x.length n)).run.fst.toList=_;rw [U];rw [posL,if_pos e,Array.toList_push,Array.size_push];obtain⟨j,hj⟩:∃j,n-found.size=j+1:=⟨n-found.size-1,by omega⟩
     rw [hj,List.take_succ_cons,show n-(found.size+1)=j by omega]
     simp
    ·rw [if_neg (λz=>hn z.1.1.1)];have U:=occ_go x c n m (k+1) found free (by omega) (by omega)
     show(forIn (List.range' (k+1) m) (found,free) (StrLaws.occBody x ⟨#[c]⟩ x.length n)).run.fst.toList=_;rw [U,show n-found.size=0 by omega]
     simp
   ·have O:¬subAt x ⟨#[c]⟩ k=true:=by rw [hs];intro z;exact e (uE (uh z))
    rw [if_neg (λz=>O z.2)];have U:=occ_go x c n m (k+1) found free (by omega) (by omega)
    show(forIn (List.range' (k+1) m) (found,free) (StrLaws.occBody x ⟨#[c]⟩ x.length n)).run.fst.toList=_;rw [U,posL,if_neg e]
  ·rw [if_neg (λz=>aa (by have:=z.1.2;show k<x.length;have h1:k+1<=x.length:=this;omega))]
   have U:=occ_go x c n m (k+1) found free (by omega) (by omega)
   show(forIn (List.range' (k+1) m) (found,free) (StrLaws.occBody x ⟨#[c]⟩ x.length n)).run.fst.toList=_;rw [U];have h1:x.cps.toList.length<=k:=by omega
   rw [U2 h1,U2 (by omega)]
   simp [posL]
theorem WF (x:Str)(c n:Nat):occurrences x ⟨#[c]⟩ 0 x.length n=(posL c x.cps.toList 0).take n:=by
 rw [StrLaws.occ_eq];have:=occ_go x c n (x.length+1) 0 #[] 0 (by omega) (ug _)
 simpa using this
def att (p:oj Nat):oj (oj Nat)->oj (oj Nat)
 |q::r=>(p++q)::r
 | []=> [p]
theorem parts_go (x:Str)(c:Nat):∀(m n a b:Nat),a<=b->b+m=x.length->
  StrLaws.partsFrom x 1 a ((posL c (x.cps.toList.drop b) b).take n)=(att ((x.cps.toList.drop a).take (b-a)) (cutL c n (x.cps.toList.drop b))).map ofL:=by
 have ac:x.cps.toList.length=x.length:=by simp [Str.length]
 have O:∀i j,strSub x i j=ofL ((x.cps.toList.drop i).take (j-i)):=λi j=>by
  rw [<-QS (strSub x i j),StrLaws.strSub_toList]
 intro m
 induction m with
 |zero=>
  intro n a b aa hb;have h1:x.cps.toList.drop b= []:=U2 (by omega)
  rw [h1];have e1:cutL c n []= [[]]:=by cases n<;>simp [cutL]
  rw [e1];simp only [posL,List.take_nil,StrLaws.partsFrom,att,vR,uq,Uf];rw [O,show x.length-a=b-a by omega]
 |succ m ih=>
  intro n a b aa hb;have U:b<x.cps.toList.length:=by omega
  rw [v7 U];cases n with
  |zero=>
   simp only [List.take_zero,StrLaws.partsFrom,cutL,att,uq,Uf];rw [O,<-v7 U];have e2:(x.cps.toList.drop a).take (x.length-a)=x.cps.toList.drop a:=v9 (by rw [vI];omega)
   have e3:x.cps.toList.drop b=(x.cps.toList.drop a).drop (b-a):=by rw [List.drop_drop];congr 1;omega
   rw [e2,e3,List.take_append_drop]
  |succ n=>
   by_cases e:x.cps.toList[b]=c
   ·rw [posL,if_pos e,List.take_succ_cons,StrLaws.partsFrom,cutL,if_pos e];rw [ih n (b+1) (b+1) (ug _) (by omega)]
    obtain⟨p,q,e2⟩:=jS c n (x.cps.toList.drop (b+1));rw [e2,O];simp [att]
   ·rw [posL,if_neg e,ih (n+1) a (b+1) (by omega) (by omega),cutL,if_neg e]
    obtain⟨p,q,e2⟩:=jS c (n+1) (x.cps.toList.drop (b+1));rw [e2];simp only [att,uq]
    congr 2
    have e3:b+1-a=(b-a)+1:=by omega
    have hx:b-a<(x.cps.toList.drop a).length:=by rw [vI];omega
    rw [e3,List.take_succ_eq_append_getElem hx];simp [show a+(b-a)=b by omega]
theorem parts_cut (x:Str)(c n:Nat):partsBetween x (occurrences x ⟨#[c]⟩ 0 x.length n) 1=(cutL c n x.cps.toList).map ofL:=by
 rw [StrLaws.partsBetween_eq,WF];have:=parts_go x c x.length n 0 0 (ug _) (by omega)
 rw [List.drop_zero] at this;rw [this];obtain⟨p,q,e⟩:=jS c n x.cps.toList;rw [e];simp [att]
theorem ZW {c:Nat}:∀{L:oj Nat}{i:Nat},posL c L i= []->c∉L
 | [],_,_=>by simp
 |a::r,i,h=>by
  by_cases e:a=c
  ·simp [posL,e] at h
  ·rw [posL,if_neg e] at h;have:=ZW h;simp [U0 e,this]
theorem xj:∀(l:oj Str) (k:Nat),Vals (l.map V.str) (strsFrom k l)
 | [],_=> .nil
 |x::r,k=> .cons ⟨k,1⟩ (xj r (k+1))
theorem zN:∀{l:oj Str}{us:oj o6},Vals (l.map V.str) us->∃ps:oj (Str×Tok),us=strValues ps/\ps.map (·.1)=l
 | [],_,.nil=>⟨[],1,1⟩
 |x::r,_,.cons ⟨t,e⟩ h=>by
  obtain⟨ps,O,e2⟩:=zN h;subst e;exact⟨(x,t)::ps,by rw [O];rfl,by rw [uq,e2]⟩
theorem Wa (z:Str):¬Builtin.Str.strKind z<Builtin.Str.strKind " ":=by
 have h1:Builtin.Str.strKind " "=1:=by decide+kernel
 rw [h1];unfold Builtin.Str.strKind;split
 ·omega
 ·split<;>omega
theorem WW (c:Nat):∀(n:Nat) (L:oj Nat),(cutL c n L).length<=L.length+1
 |0,L=>by simp [cutL]
 |n+1,[]=>by simp [cutL]
 |n+1,a::r=>by
  by_cases h:a=c
  ·have:=WW c n r;simp [cutL,h];omega
  ·have:=WW c (n+1) r;obtain⟨p,q,e⟩:=jS c (n+1) r;rw [e] at this;simp only [cutL,if_neg h,e];simp at this⊢;omega
def spl (n:Nat)(z:Str):oj Str:=(cutL 32 n z.cps.toList).map ofL
theorem spl_len (n:Nat)(z:Str):(spl n z).length<=z.length+1:=by
 unfold spl;rw [u9];have:=WW 32 n z.cps.toList
 simpa [Str.length] using this
theorem j8:(" ":Str)=⟨#[32]⟩:=by decide+kernel
theorem spl_one {z:Str}{n:Nat}(hn:z.length<=n∨z.length<1∨True)(h:(occurrences z " " 0 z.length n).isEmpty=true)(O:n≠0):spl n z= [z]:=by
 rw [j8,WF,List.isEmpty_iff] at h;have h1:posL 32 z.cps.toList 0= []:=by
  cases e:posL 32 z.cps.toList 0 with
  |nil=>rfl
  |cons a r=>
   rw [e] at h;obtain⟨k,rfl⟩:∃k,n=k+1:=⟨n-1,by omega⟩
   simp at h
 unfold spl;rw [Zw (ZW h1)];simp [QS]
section
variable {X:Cx}
def rSplit:V->oj V->Hp->VK->Prop:=λx vs H Q=>∃z,x= .str z/\vs= [.str " "]/\z.length<=1000/\∀p,H p=none->Q (.ref p) (upd H p (.lst ((spl (z.length+1) z).map V.str)))
theorem Ja {oq:oj (o3×Obj)}{σ:St}{H:Hp}{s:o7}{Q:VK}{ys:oj V}{its:oj o6}{t':Nat}(I:Inv X oq σ H s)(O:Vals ys its)(U:ys.length<=sizeLine)(q:∀p,H p=none->Q (.ref p) (upd H p (.lst ys)))(ht:0<t':=by ac_rfl):
  EP X oq σ Q (.ref s.heap.objs.size) {s with heap:=s.heap.push {cls:= .type "list",data:= .seq its.toArray},toks:=t'}:=
 ⟨.ref s.heap.objs.size,_,I.lnew O U,1,q _ I.fresh⟩
theorem mt_split:MtM X "str.split" rSplit:=by
 intro oq s σ H x vs v us Q I rx rv h;obtain⟨z,rfl,rfl,hz,q⟩:=h;obtain⟨t,rfl⟩:=rx;obtain⟨u,rfl,t',rfl⟩:=rv.one;have O:z.length<=sizeLine:=by rw [uA];omega
 have one:spl (z.length+1) z= [z]->∀(T:Nat),0<T->EP X oq σ Q (.ref s.heap.objs.size) {s with heap:=s.heap.push {cls:= .type "list",data:= .seq [Value.str z t].toArray},toks:=T}:=λe T hT=>by
  rw [e] at q;exact Ja (ys:= [V.str z]) I (.cons (show RelV (V.str z) _ from⟨t,1⟩) .nil) (by show 1<=sizeLine;decide) q
 cases h1:(decide (z.length<(" ":Str).length)||decide (Builtin.Str.strKind z<Builtin.Str.strKind " ")) with
 |true=>
  refine vz vo (vy _ _ _) vj (vM _ _) (meets_str_split_cannot_occur z " " t t' h1) ?_;have h2:z.length<1:=by
   rw [Bool.or_eq_true] at h1;rcases h1 with h1|h1
   ·exact uh h1
   ·exact absurd (uh h1) (Wa z)
  refine one ?_ s.toks I.tk;have e:z.cps.toList= []:=vW (by simpa [Str.length] using h2)
  unfold spl;rw [e,cutL];rw [<-QS z,e]
  rfl
 |false=>
  cases U:(occurrences z " " 0 z.length (z.length+1)).isEmpty with
  |true=>
   refine vz vo (vy _ _ _) vj (vM _ _) (meets_str_split_not_found z " " t t' h1 (by decide) U) ?_
   exact one (spl_one (.inr (.inr trivial)) U (by omega)) s.toks I.tk
  |false=>
   have hl:=spl_len (z.length+1) z;have e:partsBetween z (occurrences z " " 0 z.length (z.length+1)) (" ":Str).length=spl (z.length+1) z:=by
    rw [j8];exact parts_cut z 32 (z.length+1)
   refine vz vo (vy _ _ _) vj (vM _ _) (meets_str_split_sep z " " t t' h1 (by decide) U O (by rw [e,uA];omega)) ?_
   rw [e];exact Ja I (xj _ _) (by rw [u9,uA];omega) q
theorem J6 (x y:Str)(k:Int)(t u v:Tok)(hk:(decide (k< -(2^63:Int))||decide (k≥2^63))=false)(h1:(decide (x.length<y.length)||decide (Builtin.Str.strKind x<Builtin.Str.strKind y))=false)(hy:(y.length==0)=false)
  (hf:(occurrences x y 0 x.length (limitOf x k)).isEmpty=true):Meets («str.split» ⟨[.str x t,.str y u,.int k v],[]⟩) (listOfItself x t):=by
 obtain⟨U,O⟩:=split_sep_max_tree x y k t u v hk;refine .of_wp λprog w A R s h=> ?_;rw [O,h1,hy,hf];show wpAny _ _ (do rule "str.split.same-object";ret (<-newList [.str x t])) _ _ s
 exact wpAny_bind (UD (wpAny_bind (wpAny_newList (um ⟨0,h⟩) (by show 1<=sizeLine;decide))))
theorem ji (x y:Str)(k:Int)(t u v:Tok)(hk:(decide (k< -(2^63:Int))||decide (k≥2^63))=false)(h1:(decide (x.length<y.length)||decide (Builtin.Str.strKind x<Builtin.Str.strKind y))=true):
  Meets («str.split» ⟨[.str x t,.str y u,.int k v],[]⟩) (listOfItself x t):=by
 obtain⟨U,O⟩:=split_sep_max_tree x y k t u v hk;refine .of_wp λprog w A R s h=> ?_;rw [O,h1];show wpAny _ _ (do rule "str.split.sep-cannot-occur";ret (<-newList [.str x t])) _ _ s
 exact wpAny_bind (UD (wpAny_bind (wpAny_newList (um ⟨0,h⟩) (by show 1<=sizeLine;decide))))
def rSplitN:V->oj V->Hp->VK->Prop:=λx vs H Q=>∃(z:Str) (n:Nat),x= .str z/\vs= [.str " ",.int (n:Int)]/\z.length<=1000/\0<n/\n<=1000/\∀p,H p=none->Q (.ref p) (upd H p (.lst ((spl n z).map V.str)))
theorem mt_splitN:MtM X "str.split" rSplitN:=by
 intro oq s σ H x vs v us Q I rx rv h;obtain⟨z,n,rfl,rfl,hz,ac,hn,q⟩:=h;obtain⟨t,rfl⟩:=rx;obtain⟨u,u',rfl,⟨t',rfl⟩,⟨U,rfl⟩⟩:=vals2 rv;have aa:z.length<=sizeLine:=by rw [uA];omega
 have hk:(decide ((n:Int)< -(2^63:Int))||decide ((n:Int)≥2^63))=false:=by
  rw [ue (by omega),ue (by omega)];rfl
 have O:limitOf z (n:Int)=n:=by
  unfold limitOf;rw [if_neg (by omega)]
  omega
 have one:spl n z= [z]->∀(T:Nat),0<T->EP X oq σ Q (.ref s.heap.objs.size) {s with heap:=s.heap.push {cls:= .type "list",data:= .seq [Value.str z t].toArray},toks:=T}:=λe T hT=>by
  rw [e] at q;exact Ja (ys:= [V.str z]) I (.cons (show RelV (V.str z) _ from⟨t,1⟩) .nil) (by show 1<=sizeLine;decide) q
 cases h1:(decide (z.length<(" ":Str).length)||decide (Builtin.Str.strKind z<Builtin.Str.strKind " ")) with
 |true=>
  refine vz vo (vy _ _ _) vj (F.args_str_split_3 _ _ _) (ji z " " n t t' U hk h1) ?_;have h2:z.length<1:=by
   rw [Bool.or_eq_true] at h1;rcases h1 with h1|h1
   ·exact uh h1
   ·exact absurd (uh h1) (Wa z)
  refine one ?_ s.toks I.tk;have e:z.cps.toList= []:=vW (by simpa [Str.length] using h2)
  obtain⟨j,rfl⟩:∃j,n=j+1:=⟨n-1,by omega⟩
  unfold spl;rw [e,cutL];rw [<-QS z,e]
  rfl
 |false=>
  cases hf:(occurrences z " " 0 z.length (limitOf z (n:Int))).isEmpty with
  |true=>
   refine vz vo (vy _ _ _) vj (F.args_str_split_3 _ _ _) (J6 z " " n t t' U hk h1 (by decide) hf) ?_
   rw [O] at hf;exact one (spl_one (.inr (.inr trivial)) hf (by omega)) s.toks I.tk
  |false=>
   have hl:=spl_len n z;have e:partsBetween z (occurrences z " " 0 z.length (limitOf z (n:Int))) (" ":Str).length=spl n z:=by
    rw [j8,O];exact parts_cut z 32 n
   refine vz vo (vy _ _ _) vj (F.args_str_split_3 _ _ _) (meets_str_split_sep_max z " " n t t' U hk h1 (by decide) hf aa (by rw [e,uA];omega)) ?_
   rw [e];exact Ja I (xj _ _) (by rw [u9,uA];omega) q
def Jj (c:Nat):oj Nat->oj Nat
 | []=> []
 |a::r=>if a=c then [] else a::Jj c r
theorem headL_pos {c:Nat}:∀{L:oj Nat}{i j:Nat}{r:oj Nat},posL c L i=j::r->i<=j/\Jj c L=L.take (j-i)
 | [],_,_,_,h=>by simp [posL] at h
 |a::q,i,j,r,h=>by
  by_cases e:a=c
  ·rw [posL,if_pos e] at h;cases h;exact⟨ug _,by simp [Jj,e]⟩
  ·rw [posL,if_neg e] at h;obtain⟨h1,h2⟩:=headL_pos h;refine⟨by omega,?_⟩
   rw [Jj,if_neg e,h2,show j-i=(j-(i+1))+1 by omega,List.take_succ_cons]
theorem Xj {c:Nat}:∀{L:oj Nat},c∉L->Jj c L=L
 | [],_=>rfl
 |a::r,h=>by
  have h1:a≠c:=λe=>h (by simp [e])
  rw [Jj,if_neg h1,Xj λz=>h (ub _ z)]
def hd (z:Str):Str:=ofL (Jj 32 z.cps.toList)
theorem fin_tup {oq:oj (o3×Obj)}{σ:St}{H:Hp}{s:o7}{Q:VK}{ys:oj V}{its:oj o6}{t':Nat}(I:Inv X oq σ H s)(O:Vals ys its)(U:ys.length<=sizeLine)(q:∀p,H p=none->Q (.ref p) (upd H p (.tup ys)))(ht:0<t':=by ac_rfl):
  EP X oq σ Q (.ref s.heap.objs.size) {s with heap:=s.heap.push {cls:= .type "tuple",data:= .seq its.toArray},toks:=t'}:=
 ⟨.ref s.heap.objs.size,_,I.laid (o:= .tup ys) (λ_ _ w=>ua _ w) (ug _) ⟨U,its,O,IsTup.new _ _⟩,1,q _ I.fresh⟩
def rPart:V->oj V->Hp->VK->Prop:=λx vs H Q=>∃z,x= .str z/\vs= [.str " "]/\z.length<=1000/\∀p a b,H p=none->Q (.ref p) (upd H p (.tup [.str (hd z),.str a,.str b]))
theorem mt_part:MtM X "str.partition" rPart:=by
 intro oq s σ H x vs v us Q I rx rv h;obtain⟨z,rfl,rfl,hz,q⟩:=h;obtain⟨t,rfl⟩:=rx;obtain⟨u,rfl,t',rfl⟩:=rv.one;have U:z.length<=sizeLine:=by rw [uA];omega
 refine vz F.slot_str_partition (vy _ _ _) F.entry_str_partition (F.args_str_partition_2 _ _) (meets_str_partition z " " t t' (by decide) U) ?_
 cases O:occurrences z " " 0 z.length 1 with
 |nil=>
  have h0:hd z=z:=by
   rw [j8,WF] at O;have h1:posL 32 z.cps.toList 0= []:=by
    cases e:posL 32 z.cps.toList 0 with
    |nil=>rfl
    |cons a r=>rw [e] at O;simp at O
   unfold hd;rw [Xj (ZW h1),QS]
  refine fin_tup (ys:= [.str (hd z),.str Str.empty,.str Str.empty]) (t':=s.toks+1) I (.cons (show RelV (V.str (hd z)) _ from⟨t,by rw [h0]⟩) (.cons (show RelV (V.str _) _ from⟨0⟩) (.cons (show RelV (V.str _) _ from⟨0⟩) .nil))) (by show 3<=sizeLine;decide) λp hp=>q p _ _ hp
 |cons i r=>
  have h0:hd z=strSub z 0 i:=by
   rw [j8,WF] at O;cases e:posL 32 z.cps.toList 0 with
   |nil=>rw [e] at O;simp at O
   |cons a r'=>
    rw [e] at O;have:a=i:=by simp at O;exact O.1
    subst this;obtain⟨_,h2⟩:=headL_pos e;unfold hd;rw [h2,<-QS (strSub z 0 a),StrLaws.strSub_toList,List.drop_zero]
  refine fin_tup (ys:= [.str (hd z),.str " ",.str _]) (t':=s.toks+1+1) I (.cons (show RelV (V.str (hd z)) _ from⟨s.toks,by rw [h0]⟩) (.cons (show RelV (V.str _) _ from⟨t',1⟩) (.cons (show RelV (V.str _) _ from⟨s.toks+1,1⟩) .nil))) (by show 3<=sizeLine;decide) λp hp=>q p _ _ hp
def rJoin (K:o0):V->oj V->Hp->VK->Prop:=λx vs H Q=>∃(sep:Str) (p:o3) (l:oj Str),x= .str sep/\vs= [.ref p]/\SqL K H p (l.map V.str)/\(l.map (·.length)).sum+l.length*sep.length<=1000000/\Q (.str (Str.join sep l)) H
theorem WY:MtM X "str.join" (rJoin X.K):=by
 intro oq s σ H x vs v us Q I rx rv h;obtain⟨sep,p,l,rfl,rfl,hp,hz,q⟩:=h;obtain⟨t,rfl⟩:=rx;obtain⟨u,rfl,ru⟩:=rv.one;cases ru;obtain⟨its,r,pl,hl⟩:=I.list hp;obtain⟨ps,rfl,e2⟩:=zN r;have U:tooLong ((ps.map (·.1)).toArray.foldl (·+ ·.length+sep.length) 0)=false:=by
  rw [e2];have:=StrLaws.joinTotal sep l;rw [this];unfold tooLong;refine ue ?_;rw [uA];omega
 refine vz F.slot_str_join (vy _ _ _) F.entry_str_join (F.args_str_join_2 _ _) (meets_str_join_list sep t p ps U) ⟨pl.isList,?_⟩;have O:(glued sep (ps.map (·.1))).length<=sizeLine:=joinFit_length U
 match ps,e2,O with
 | [],e2,O=>
  subst e2;exact⟨O,.str _,H,I.tok _,⟨0⟩,q⟩
 | [a],e2,_=>
  subst e2;exact⟨.str _,H,I,⟨a.2,1⟩,q⟩
 |a::b::r,e2,O=>
  subst e2;refine⟨O,.str _,H,I.tok _,⟨0⟩,?_⟩;rw [StrLaws.glued_eq_join];exact q
theorem call_intS:y6 X (.type "int") (λxs H Q=>∃z n,xs= [.str z]/\PySem.intText? z=some n/\z.length<=640/\Q (.int n) H):=by
 intro oq s σ H xs us Q I r h;obtain⟨z,n,rfl,hn,O,q⟩:=h;obtain⟨u,rfl,t,rfl⟩:=JZ r;exact PySem.W.KIN.call_text hn O ⟨.int n,H,I.tok _,⟨0⟩,q⟩
end
end L2
namespace L2
open PySem PySem.Spec PyProof.Rows
theorem Inv.turnedL {X:Cx}{oq:oj (o3×Obj)}{σ:St}{H:Hp}{s:o7}{h':o8}{t':Nat}{fp:oj o3}(I:Inv X oq σ H s)(k:∀b o,b∉fp->s.heap.get? b=some o->h'.get? b=some o)(U:∀b∈fp,FpOk X oq H b)(ht:0<t':=by ac_rfl):Inv X oq σ H {s with heap:=h',toks:=t'}:=by
 have aa:∀b u,H b=some u->b∉fp:=λb u e z=>by
  have:=(U b z).1;rw [this] at e;cases e
 have nL:X.env.locals∉fp:=λz=>(U _ z).2.1 rfl;refine I.step (g':=s.gens) (d':=s.drawn) (ch:=fp) (λb hb=>⟨(U b hb).2.2.2.1,(U b hb).2.1,(U b hb).2.2.2.2.1,(U b hb).2.2.2.2.2⟩) (λb o _ _ O e _=>k b o O e) (λb o _ _ O e _=>⟨o.slots,k b o O e⟩) (λ_ _ _ _ n=>n)
  (λb o O e=>⟨o,k b o O e⟩) (λ_ _ e=>e) (λ_ _ _ e=>e) (λb ps e=>⟨#[],by rw [e];simp⟩) (λm hm=> ?_) (λb u e=> ?_) I.bare
 ·obtain⟨o,es,ep,ho,r⟩:=hm;exact⟨o,es,ep,k _ o nL ho,r⟩
 ·refine(I.hok b u e).stay (λc v O q=>k c v ?_ q) (λ_ q=>q) λ_ _ q=>q;rcases O with z|z
  ·rw [z];exact aa b u e
  ·exact aa c _ z
theorem Inv.handed {X:Cx}{oq:oj (o3×Obj)}{σ:St}{H:Hp}{s:o7}{h':o8}{t':Nat}{fp:oj o3}{ys:oj V}{its:oj o6}(I:Inv X oq σ H s)(hf:∀b∈fp,FpOk X oq H b)(hl:∀b∈fp,b<s.heap.objs.size)(hv:Vals ys its)(hz:ys.length<=sizeLine)
  (hn:h'.get? s.heap.objs.size=some {cls:= .type "tuple",data:= .seq its.toArray}) (hs:h'.objs.size=s.heap.objs.size+1) (k:∀b o,b∉fp->s.heap.get? b=some o->h'.get? b=some o) (ht:0<t':=by ac_rfl):
  Inv X oq σ (upd H s.heap.objs.size (.tup ys)) {s with heap:=h',toks:=t'}/\∀b∈fp,FpOk X oq (upd H s.heap.objs.size (.tup ys)) b:=by
 have I1:Inv X oq σ (upd H s.heap.objs.size (.tup ys)) {s with heap:=s.heap.push {cls:= .type "tuple",data:= .seq its.toArray},toks:=t'}:=
  I.laid (o:= .tup ys) (λ_ _ w=>ua _ w) (ug _) ⟨hz,its,hv,IsTup.new _ _⟩
 have O:∀b∈fp,FpOk X oq (upd H s.heap.objs.size (.tup ys)) b:=λb U=>by
  obtain⟨f0,f1,f2,f3,f4,f5⟩:=hf b U;have:=hl b U;exact⟨by rw [qh (uI this)];exact f0,f1,f2,f3,f4,f5⟩
 refine⟨I1.turnedL (h':=h') (t':=t') (λb o U e=> ?_) O,O⟩;rcases Heap.get?_push_cases (show(s.heap.push {cls:= .type "tuple",data:= .seq its.toArray}).get? b=some o from e) with⟨rfl,rfl⟩|e'
 ·exact hn
 ·exact k b o U e'
def Itz (K:o0)(a b:o3):It:=
 ⟨λi H=>∃xs ys x y,SqT K H a xs/\SqL K H b ys/\xs[i]? =some x/\ys[i]? =some y,
  λi H v H'=>∃p x y,v= .ref p/\H p=none/\H'=upd H p (.tup [x,y])/\(∀xs,SqT K H a xs->xs[i]? =some x)/\∀ys,SqL K H b ys->ys[i]? =some y,
  λi H=>∃xs,SqT K H a xs/\xs.length=i⟩
def tnZ (a b z p r i j:o3)(k:Nat)(h:o8):Prop:=
 IsZip h z p r .none/\IsPair h p (.ref i) (.ref j)/\(∃u v,IsPair h r u v)/\h.IsTupleIter i a k/\h.IsListIter j b k/\AwZ.Apt z p r i j a b
theorem turn_zip {P:o9}{w:og}{K:o0}{ac:oj Expr}{c:Nat}{tp:Pos}(a b z p r i j:o3):Turn P w K (.Tuple ac c tp) (Itz K a b) [z,p,r,i,j] z (tnZ a b z p r i j) where
 mem:=by simp
 obj:=λk h st x hx=>by
  obtain⟨h1,h2,⟨u,v,h3⟩,⟨o4,e4,c4,d4⟩,⟨o5,e5,c5,d5⟩,D⟩:=st;simp only [uB,v5,uM] at hx;rcases hx with rfl|rfl|rfl|rfl|rfl
  ·exact⟨_,h1,λv z=>by cases z⟩
  ·exact⟨_,h2,λv z=>by cases z⟩
  ·exact⟨_,h3,λv z=>by cases z⟩
  ·exact⟨o4,e4,λv z=>by rw [d4] at z;cases z⟩
  ·exact⟨o5,e5,λv z=>by rw [d5] at z;cases z⟩
 keep:=λk h h' st kk=>by
  obtain⟨h1,h2,⟨u,v,h3⟩,⟨o4,e4,r4⟩,⟨o5,e5,r5⟩,D⟩:=st;exact⟨kk z (by simp) _ h1,kk p (by simp) _ h2,⟨u,v,kk r (by simp) _ h3⟩,⟨o4,kk i (by simp) _ e4,r4⟩,⟨o5,kk j (by simp) _ e5,r5⟩,D⟩
 item:=by
  intro X hP hw hK O k oq s σ H E I hf st hg;subst hP hw hK;obtain⟨xs,ys,x,y,ha,hb,hx,hy⟩:=hg;obtain⟨its,ra,pa,za⟩:=I.tuple ha;obtain⟨al,rb,pb,zb⟩:=I.list hb;obtain⟨ux,af,ag⟩:=ra.get hx;obtain⟨uy,ah,ak⟩:=rb.get hy;obtain⟨h1,h2,⟨u,v,h3⟩,h4,h5,D⟩:=st;have l1:=uw h1;have l2:=uw h2;have l3:=uw h3;have l4:i<s.heap.objs.size:=by obtain⟨o,e,_⟩:=h4;exact uw e
  have l5:j<s.heap.objs.size:=by obtain⟨o,e,_⟩:=h5;exact uw e
  refine AwZ.zip_go D h1 h2 h3 h4 h5 (show s.heap.IsTuple a its.toArray from pa) pb.isList (x:=ux) (y:=uy) (by simpa using af) (by simpa using ah) λh' g1 g2 g3 g4 g5 g6 g7=> ?_
  have g8:IsPair h' p (.ref i) (.ref j):=g7 _ _ D.pz D.pr D.pi D.pj h2;obtain⟨I1,ad⟩:=I.handed (t':=s.toks) (ys:= [x,y]) (its:= [ux,uy]) hf (λc O=>by
   simp only [uB,v5,uM] at O;rcases O with rfl|rfl|rfl|rfl|rfl<;>assumption) (.cons ag (.cons ak .nil)) (by show 2<=sizeLine;decide) g5 g6 (λc o O e=>by
    simp only [uB,v5,uM,UK] at O;exact g7 c o O.1 O.2.2.1 O.2.2.2.1 O.2.2.2.2 e)
  refine⟨0,wpAny_letOwnedTupleGo_zip (s:={s with heap:=h'}) g1 λae z2 s2=> ?_⟩
  have U:∀c o,c≠z->h'.get? c=some o->ae.get? c=some o:=λc o O e=>s2.extBut c o O e;refine⟨.ref s.heap.objs.size,_,I1.turnedL (fp:= [z]) (h':=ae) (t':=s.toks) (λc o O e=>U c o (by simpa using O) e) (λc O=>ad c (by simp at O;simp [O])),1,⟨_,x,y,1,I.fresh,1,λzs aa=> ?_,λzs aa=> ?_⟩,⟨z2,U _ _ D.pz g8,⟨_,_,U _ _ D.rz g2⟩,?_,?_,D⟩,λc O=>(ad c O).1⟩
  ·rw [I.tuple_inj aa ha];exact hx
  ·rw [I.list_inj aa hb];exact hy
  ·obtain⟨o,e,q⟩:=g3;exact⟨o,U _ _ D.iz e,q⟩
  ·obtain⟨o,e,q⟩:=g4;exact⟨o,U _ _ D.jz e,q⟩
 done:=by
  intro X hP hw hK O k oq s σ H E I hf st hg;subst hP hw hK;obtain⟨xs,ha,hx⟩:=hg;obtain⟨its,ra,pa,za⟩:=I.tuple ha;have hl:=ra.length;obtain⟨h1,h2,⟨u,v,h3⟩,h4,h5,D⟩:=st;refine AwZ.zip_stop (A:=X.A) (I.ok.hd O) D h1 h2 h4 (show s.heap.IsTuple a its.toArray from pa) (by simp;omega) λh' kk=>⟨1,?_⟩
  exact I.turnedL (t':=s.toks) (λc o O e=>by
   simp only [uB,v5,uM,UK] at O;exact kk c o O.1 O.2.2.1 O.2.2.2.1 O.2.2.2.2 e) hf
 self:=λ_ _ _ _ _ st h=>wpAny_pyIter_zip st.1 h
section
variable {X:Cx}
theorem apt_mk {n a b:Nat}(ha:a<n)(O:b<n):AwZ.Apt (n+4) (n+2) (n+3) n (n+1) a b:=by
 constructor<;>exact(show _≠((_:Nat)) by omega)
theorem five_le {n x:Nat}(h:x=n+4∨x=n+2∨x=n+3∨x=n∨x=n+1):n<=x:=by omega
def iZip (K:o0)(ta:TA):TI:=λσ H R=>ta σ H λvs H1=>∃a b xs ys,vs= [.ref a,.ref b]/\SqT K H1 a xs/\SqL K H1 b ys/\R (Itz K a b) H1
theorem pi_zip {O:oj Expr}{c:Nat}{tp p pos:Pos}{e1 e2:Expr}{ta:TA}(hg:Gl X "zip")(hm:X.mg "zip"=none)(ha:PA X [e1,e2] ta)(hs:starEach [e1,e2] X.env= [(false,eval e1 X.env),(false,eval e2 X.env)])(U:starEach [e2] X.env= [(false,eval e2 X.env)]):
  PI X (.Tuple O c tp) (.Call (.Name "zip" p) [e1,e2] [] pos) (iZip X.K ta):=by
 intro oq s σ H R I h;refine Call_ (wx I hg hm boot_zip (vE (thn (ha pos oq s σ H _ I h) λus s1 ⟨vs,H1,I1,r1,q1⟩=> ?_) (by rw [hs,U]) (by rw [U];rfl)))
 obtain⟨a,b,xs,ys,e,hA,hB,q⟩:=q1;subst e;obtain⟨u,u',rfl,ru,ac⟩:=vals2 r1;cases ru;cases ac;obtain⟨its,ra,pa,za⟩:=I1.tuple hA;obtain⟨ad,rb,pb,zb⟩:=I1.list hB;have la:a<s1.heap.objs.size:=by obtain⟨o,e,_⟩:=id pa;exact uw e
 have lb:b<s1.heap.objs.size:=by obtain⟨o,n,e,_⟩:=id pb;exact uw e
 refine AwZ.zip_call (show s1.heap.IsTuple a its.toArray from pa) pb.isList λh2 g1 g2 g3 g4 g5 g6 g7=> ?_
 refine wpAny_pyIter_zip (s:={s1 with heap:=h2}) g1 ?_
 refine⟨_,[s1.heap.objs.size+4,s1.heap.objs.size+2,s1.heap.objs.size+3,s1.heap.objs.size,s1.heap.objs.size+1],_,_,H1,1,I1.kept (t':=s1.toks) g7,turn_zip a b _ _ _ _ _,⟨g1,g2,⟨_,_,g3⟩,g4,g5,?_⟩,λx hx=> ?_,q⟩
 ·exact apt_mk la lb
 ·have aa:s1.heap.objs.size<=x:=by
   simp only [uB,v5,uM] at hx;exact five_le hx
  exact I1.fpOk aa (I1.hok.fresh aa)
def KDict (K:o0)(w:og)(a:o3):Prop:=(a==sysModules)=false/\∃es n,K.lookup a=some ⟨.type "dict",none,.dict es n,#[]⟩/\PySem.W.KeysLit w.params es.toList
def rNotK (K:o0)(w:og):R2:=λx y H Q=>∃z a r,x= .str z/\y= .ref a/\KDict K w a/\PySem.W.nsIn K a z=some r/\Q (.bl (!r.isSome)) H
theorem op_notK:OpR X (compareOp .NotIn) (rNotK X.K X.w):=by
 intro oq s σ H x y v u Q I U ry h;obtain⟨z,a,r,rfl,rfl,⟨hs,es,n,O,hk⟩,hn,q⟩:=h;obtain⟨t,rfl⟩:=U;cases ry;have hm:=PySem.W.mapOf_K (prog:=X.prog) (w:=X.w) I.kIn O hk;refine wpAny_notIn_of (strKind_is X.prog X.w z t) hs hm ⟨.bl (!r.isSome),H,I.tok _,?_,q⟩;rw [PySem.W.find_K O hn]
 rfl
def rIxK (K:o0)(w:og):R2:=λx y H Q=>∃z a u v,x= .ref a/\y= .str z/\KDict K w a/\PySem.W.nsIn K a z=some (some u)/\RelV v u/\Q v H
theorem ix_K:IxR X (rIxK X.K X.w):=by
 intro value O oq s σ H x y v u Q I rx ry h hs;obtain⟨z,a,u',v',rfl,rfl,⟨_,es,n,U,hk⟩,hn,hr,q⟩:=h;obtain⟨t,rfl⟩:=ry;cases rx;have hm:=PySem.W.mapOf_K (prog:=X.prog) (w:=X.w) I.kIn U hk;exact tail_any hm.typeIs slot_dict_getitem.lookup (wpAny_getItem_of (strKind_is X.prog X.w z t) hm (PySem.W.find_K U hn) ⟨v',H,I.tok _,hr,q⟩) hs
end
section
variable {X:Cx}{K:o0}
theorem pg_tupK {es:oj Expr}{k:Nat}{t:TGs}{n:Nat}{pos:Pos}(U:X.K=K)(hc:X.calm=true)(h:PGs X es t)
  (hn:(assignEach es X.env).length=n) (O:(assignEach es X.env).findIdx? (·.1)=none):PG X (.Tuple es k pos) (gTup K n t):=by subst U;exact pg_tup hc h hn O
end
theorem zr {lo:Int}{n:Nat}{L:o3}{H1:Hp}{te:TE}{tl:St}{Q:VK}(C:Nat->oj V->Hp->Prop)(hn:n<=sizeLine)(h0:C 0 [] (upd H1 L (.lst [])))
  (hs:∀i ys H,i<n->C i ys H->H L=some (.lst ys)->ys.length<=i->∀R:VK,(∀y O,O L=some (.lst ys)->C (i+1) (ys++ [y]) (upd O L (.lst (ys++ [y])))->R y O)->te (some (.int (lo+(i:Int)))::tl) H R)
  (hQ:∀ys H,C n ys H->H L=some (.lst ys)->Q (.ref L) H):lcGo L (Itr lo n) (YC 0) tYes te (none::tl) H1 Q:=by
 refine⟨n,λi σ ys H=>(∃x,σ=x::tl)/\C i ys H,hn,⟨⟨none,1⟩,h0⟩,?_,?_⟩
 ·rintro i σ ys H hi ⟨⟨x,rfl⟩,U⟩ hL hy;refine⟨hi,?_⟩;rintro x' H' ⟨rfl,rfl⟩;dsimp only [YC,tYes,List.set];rw [if_pos rfl];exact hs i ys H' hi U hL hy _ λy O e c=>⟨e,⟨0⟩,c⟩
 ·rintro σ ys H ⟨_,U⟩ hL;exact⟨ug _,hQ ys H U hL⟩
theorem lc_zip {K:o0}{a b A:o3}{H1:Hp}{te:TE}{tl:St}{Q:VK}{xs ys:oj V}(f:Nat->D)(ha:∀H,Same H1 H->SqT K H a xs)(hb:∀H,Same H1 H->SqL K H b ys)(ad:xs.length=ys.length)(hn:xs.length<=sizeLine)(hA:H1 A=none)
  (aa:∀i x y H (R:VK),xs[i]? =some x->ys[i]? =some y->Same H1 H->(∀v H',Same H H'->Is H' (f i) v->R v H')->te (some x::some y::tl) H R)
  (hQ:∀H' vs,Same H1 H'->H' A=some (.lst vs)->L2.IsL H' ((List.range xs.length).map f) vs->Q (.ref A) H'):lcGo A (Itz K a b) (gTup K 2 (gCons (YC 0) (gCons (YC 1) gNil))) tYes te (none::none::tl) H1 Q:=by
 refine⟨xs.length,λi σ us H=>(∃u v,σ=u::v::tl)/\L2.IsL H ((List.range i).map f) us/\Same H1 H,hn,⟨⟨none,none,1⟩,1,qg hA _⟩,?_,?_⟩
 ·rintro i σ us H hi ⟨⟨u,v,rfl⟩,hl,sm⟩ O ae;have hx:xs[i]? =some xs[i]:=uf hi;have hy:ys[i]? =some (ys[i]'(by omega)):=uf _
  refine⟨⟨xs,ys,_,_,ha H sm,hb H sm,hx,hy⟩,λx H' y=> ?_⟩;obtain⟨p,x',y',rfl,hp,rfl,e1,e2⟩:=y;have e1:=e1 xs (ha H sm);have e2:=e2 ys (hb H sm);have s2:Same H (upd H p (.tup [x',y'])):=qg hp _;refine⟨p,0,SqT.of qf,1,x',0,y',0,1,?_⟩;dsimp only [tYes];rw [if_pos rfl];refine aa i x' y' _ _ e1 e2 (sm.trans s2) λy4 H4 U ac=>⟨U _ _ (s2 _ _ O),⟨_,0⟩,?_,λb o e=> ?_⟩
  ·have t:Tk H4 (upd H4 A (.lst (us++ [y4]))):=Tk.updL (U _ _ (s2 _ _ O));rw [List.range_succ,uu];exact((hl.mono (s2.trans U).tk).mono t).append (IsL.one (ac.mono t))
  ·rw [qh (qj e hA)];exact U b o (s2 b o (sm b o e))
 ·rintro σ us H ⟨_,hl,sm⟩ O;exact⟨⟨xs,ha H sm,1⟩,hQ H us sm O hl⟩
theorem ZA (z:Str)(l:oj Str):inV (.str z) (l.map V.str)=decide (z∈l):=by
 unfold inV;rw [List.any_map,vx,List.any_eq_true,uU];constructor
 ·rintro⟨x,U,e⟩;have O:(x==z)=true:=e;rw [beq_iff_eq] at O;exact O▸U
 ·intro h;exact⟨z,h,by show(z==z)=true;exact beq_self_eq_true z⟩
theorem ZS (l:oj Str):(l.map V.str).all zp=true:=by
 rw [Up,vX];intro x _
 rfl
inductive Pt where
 |s (z:Str)|n (i:Int)
def Pt.d:Pt->D
 | .s z=> .str z
 | .n i=> .int i
def Pt.t:Pt->Str
 | .s z=>z
 | .n i=>toString i
inductive Kd where
 |box|line|words
 deriving DecidableEq
def Kd.t:Kd->Str
 | .box=>"box"
 | .line=>"line"
 | .words=>"words"
def BX:oj Str:= ["a","b","c","d","e","f","g","h"]
def FRM:oj (Str×oj Kd):= [("text",[.box,.words]),("self",[.box]),("copy",[.box,.box]),("row",[.box]),("put",[.box,.box]),("join",[.box,.box]),("first",[.box,.box]),("rest",[.box,.box]),
 ("size",[.box,.box]),("cut",[.box,.box,.box]),("glue",[.box,.box,.box]),("ask",[.box,.box]),("has",[.box,.box]),("names",[.box,.box]),("go",[.line]),("like",[.box,.box,.line]),
 ("rowed",[.box,.line]),("none",[.box,.line]),("say",[.box]),("fault",[])]
def ptOk (n m:Nat):Kd->Pt->Prop
 | .box,.s z=>z∈BX
 | .line,.n i=>1<=i/\i<=n
 | .words,.s z=>z.length<=m/\z.cps.toList.all Qs=true
 |_,_=>False
def JV (n m:Nat):oj Kd->oj Pt->Prop
 | [],[]=>True
 |k::ks,p::ps=>ptOk n m k p/\JV n m ks ps
 |_,_=>False
abbrev Rw:=Str×oj Pt
def jg (n m:Nat)(r:Rw):Prop:=∃ks,(r.1,ks)∈FRM/\JV n m ks r.2
def txs (r:Rw):oj Str:=r.1::r.2.map Pt.t
def yG (r:Rw):Str:=Str.join " " (txs r)
noncomputable def rowD (r:Rw):D:= .tup [.str r.1,.tup (r.2.map Pt.d)]
theorem jY:∀(x y:Str) (r:oj Str),(Str.join " " (x::y::r)).cps.toList=x.cps.toList++32::(Str.join " " (y::r)).cps.toList:=by
 intro x y r;show((x.cps++(" ":Str).cps)++(Str.join " " (y::r)).cps).toList=_;rw [Array.toList_append,Array.toList_append,j8];simp
abbrev Free (z:Str):Prop:=32∉z.cps.toList
theorem Ws:∀(l:oj Str) (z:Str) (n:Nat),(∀p∈l,Free p)->(n=0∨Free z)->spl (l.length+n) (Str.join " " (l++ [z]))=l++ [z]
 | [],z,n,_,hz=>by
  show spl (0+n) z= [z];rw [Nat.zero_add];unfold spl;rcases hz with rfl|hz
  ·rw [cutL];show [ofL z.cps.toList]= [z];rw [QS]
  ·rw [Zw hz];show [ofL z.cps.toList]= [z];rw [QS]
 |p::l,z,n,hl,hz=>by
  have O:=Ws l z n (λq U=>hl q (ub _ U)) hz;have hp:Free p:=hl p ud;obtain⟨y,r,e⟩:∃y r,l++ [z]=y::r:=by cases l<;>exact⟨_,0⟩
  show spl ((l.length+1)+n) (Str.join " " (p::(l++ [z])))=p::(l++ [z]);rw [e] at O⊢;unfold spl at O⊢;rw [jY,show l.length+1+n=(l.length+n)+1 by omega,cutL_app hp,uq,O,QS]
theorem hd_join (w:Str)(r:oj Str)(h:Free w):hd (Str.join " " (w::r))=w:=by
 have O:∀(p q:oj Nat),32∉p->Jj 32 (p++32::q)=p:=by
  intro p
  induction p with
  |nil=>intro q _;simp [Jj]
  |cons a p U=>
   intro q h;have h1:a≠32:=λe=>h (by simp [e])
   show Jj 32 (a::(p++32::q))=a::p;rw [Jj,if_neg h1,U q λz=>h (ub _ z)]
 cases r with
 |nil=>
  show ofL (Jj 32 w.cps.toList)=w;rw [Xj h,QS]
 |cons y r=>
  unfold hd;rw [jY,O _ _ h,QS]
theorem join_len:∀(l:oj Str),l≠ []->(Str.join " " l).length+1=(l.map (·.length)).sum+l.length
 | [],h=>absurd rfl h
 | [x],_=>by simp [Str.join]
 |x::y::r,_=>by
  have O:=join_len (y::r) (by simp)
  have e:(Str.join " " (x::y::r)).length=x.length+(1+(Str.join " " (y::r)).length):=by
   have:=congrArg List.length (jY x y r);rw [uD,ui] at this;simp only [uX] at this;show(Str.join " " (x::y::r)).cps.size=_;rw [this];show x.cps.size+((Str.join " " (y::r)).cps.size+1)=x.cps.size+(1+(Str.join " " (y::r)).cps.size);omega
  rw [e,uq,Uh,ui];omega
theorem num_small {i:Int}(h1:1<=i)(h2:i<=40):(toString i:Str).length<=2/\Free (toString i:Str)/\(toString i:Str).cps.toList.all Qs=true:=by
 obtain⟨k,rfl⟩:∃k:Fin 41,i=((k.val:Nat):Int):=⟨⟨i.toNat,by omega⟩,by simp;omega⟩
 have O:∀k:Fin 41,(toString ((k.val:Nat):Int):Str).length<=2/\decide (Free (toString ((k.val:Nat):Int):Str))=true/\(toString ((k.val:Nat):Int):Str).cps.toList.all Qs=true:=by decide+kernel
 obtain⟨a,b,c⟩:=O k;exact⟨a,uh b,c⟩
theorem Wg {i:Int}(h1:1<=i)(h2:i<=40):PySem.intText? (toString i:Str)=some i:=PySem.W.KIN.num_reads (by omega) (by omega)
theorem box_ok {z:Str}(h:z∈BX):z.length=1/\Free z/\z.cps.toList.all Qs=true:=by
 have O:∀z∈BX,z.length=1/\decide (Free z)=true/\z.cps.toList.all Qs=true:=by decide+kernel
 obtain⟨a,b,c⟩:=O z h;exact⟨a,uh b,c⟩
theorem word_ok:∀x∈FRM,decide (Free x.1)=true/\x.1.cps.toList.all Qs=true:=by decide+kernel
theorem form_ok:∀x∈FRM,(decide (Kd.words∈x.2)=false)∨x=(("text":Str),[Kd.box,Kd.words]):=by decide+kernel
theorem form_nd:∀x∈FRM,∀y∈FRM,x.1=y.1->x=y:=by decide+kernel
theorem ptOk_free {n m:Nat}(hn:n<=40){k:Kd}{p:Pt}(h:ptOk n m k p)(O:k≠ .words):Free p.t:=by
 cases k<;>cases p<;>simp only [ptOk] at h
 ·exact(box_ok h).2.1
 ·exact(num_small h.1 (by omega)).2.1
 ·exact absurd rfl O
theorem XQ {n m:Nat}:∀{ks:oj Kd}{ps:oj Pt},JV n m ks ps->ps.length=ks.length
 | [],[],_=>rfl
 |_::_,_::_,h=>by rw [ui,ui,XQ h.2]
 | [],_::_,h=>h.elim
 |_::_,[],h=>h.elim
theorem wZ {n m:Nat}(hn:n<=40):∀{ks:oj Kd}{ps:oj Pt},JV n m ks ps->Kd.words∉ks->∀p∈ps.map Pt.t,Free p
 | [],[],_,_=>λp O=>by simp at O
 |_::_,_::_,h,hk=>λp O=>by
  rw [uq] at O;rcases List.mem_cons.mp O with rfl|O
  ·exact ptOk_free hn h.1 λe=>hk (by simp [e])
  ·exact wZ hn h.2 (λz=>hk (ub _ z)) p O
 | [],_::_,h,_=>h.elim
 |_::_,[],h,_=>h.elim
theorem line_hd {n m:Nat}{r:Rw}(h:jg n m r):hd (yG r)=r.1:=by
 obtain⟨ks,O,U⟩:=h;exact hd_join _ _ (uh (word_ok _ O).1)
theorem line_spl {n m:Nat}{r:Rw}{ks:oj Kd}(hn:n<=40)(hk:(r.1,ks)∈FRM)(hp:JV n m ks r.2):spl (if Kd.words∈ks then ks.length else(yG r).length+1) (yG r)=txs r:=by
 have hw:Free r.1:=uh (word_ok _ hk).1;by_cases h:Kd.words∈ks
 ·rw [if_pos h];rcases form_ok _ hk with e|e
  ·simp at e;exact absurd h e
  ·have e1:ks= [.box,.words]:=congrArg Prod.snd e;subst e1;obtain⟨w,ps⟩:=r
   match ps,hp with
   | [p,q],hp=>
    have:=Ws [w,p.t] q.t 0 (λz hz=>by
     simp only [uB,v5,uM] at hz;rcases hz with rfl|rfl
     ·exact hw
     ·exact ptOk_free hn hp.1 (by decide)) (.inl rfl)
    exact this
 ·rw [if_neg h];have hf:∀p∈txs r,Free p:=λp U=>by
   rcases List.mem_cons.mp U with rfl|U
   ·exact hw
   ·exact wZ hn hp h p U
  rcases List.eq_nil_or_concat (txs r) with e|⟨l,z,e⟩
  ·simp [txs] at e
  ·rw [List.concat_eq_append] at e;have O:=join_len (txs r) (by simp [txs])
   unfold yG;rw [e] at hf O⊢;have hl:l.length<=(Str.join " " (l++ [z])).length:=by
    rw [uD] at O;simp only [ui,List.length_nil] at O;omega
   have:=Ws l z ((Str.join " " (l++ [z])).length+1-l.length) (λq hq=>hf q (vC _ hq)) (.inr (hf z (by simp)))
   rw [show l.length+((Str.join " " (l++ [z])).length+1-l.length)=(Str.join " " (l++ [z])).length+1 by omega] at this
   exact this
def VE:oj o6:= [.type "ValueError",.type "Exception",.type "BaseException",.type "object"]
def CX1 (P:o9)(w:og):CXT:=λouter H s E e s'=>∃(ea C:o3) (a0:o6) (H':Hp) (B:o8),e= .ref ea/\s'.os=s.os/\AllBare s'.gens/\0<s'.toks/\Un (frs outer) [] H H' s.heap s'.heap/\HOk P w H' B/\
 Heap.FlyingW B outer ea (.ref C) a0 s'.heap/\(∀b o,s.heap.get? b=some o->b∉frs outer->∃o',B.get? b=some o')/\E (.ref ea) (some C) H'
theorem cls_in {K:o0}{h:o8}{C:o3}{bmB:oj o6}{newId:String}(X:K.In h)(q:PySem.W.excIn K C bmB newId=true):
  ∃bm N nm qn bs hdct sn sub ab col dd k0 k1 k2 k3 k5 mN,h.get? C=some (excClassObj nm qn C N bs bm hdct sn sub ab col dd k0 k1 k2 k3 k5 newId)/\h.Ns N mN/\mN "__init__"=none/\OwnTail h bmB bm:=by
 unfold PySem.W.excIn at q;split at q
 ·rename_i dd cd sl ho
  split at q
  ·rename_i C' bm k0 k1 k2 k3 n k5 hm hs
   simp only [ur,beq_iff_eq,Bool.not_eq_true'] at q;obtain⟨⟨⟨⟨⟨rfl,rfl⟩,O⟩,ht⟩,hok⟩,U⟩:=q;obtain⟨nm,bs,aa,ns,qn,hd,sn,sub,ab,col,ac⟩:=cd;dsimp only at hm O hok U;subst hm O;obtain⟨l⟩:=sl;simp only at hs;subst hs;exact⟨bm,ns,nm,qn,bs,hd,sn,sub,ab,col,dd,k0,k1,k2,k3,k5,_,X _ _ ho,.of_isNs (PySem.W.isNs_of_in X hok),PySem.W.nsMap_none_of_in X hok U,PySem.W.tail_of_in X ht⟩
  ·cases q
 ·cases q
theorem funs_gone {h base B:o8}:∀{l:oj Env},h.FunFrames base l->(∀b∈frs l,B.get? b=none)->h.FunFrames B l
 | [],_,_=>trivial
 |env::r,⟨hk,⟨L,o,hf,hn,ho,hd⟩,hr⟩,hB=>by
  have e:frs (env::r)=L::frs r:=by unfold frs;rw [vD,hf]
  rw [e] at hB;exact⟨hk,⟨L,o,hf,hB L ud,ho,hd⟩,funs_gone hr λb O=>hB b (ub _ O)⟩
def tRaise (E:XK)(C:o3)(ta:TE):TS:=λ_ σ H=>tCons ta tNil σ H λvs H1=>vs.length=1/\∀e,E (.ref e) (some C) H1
theorem Wr {P:o9}{w:og}{K:o0}{mg:Str->om o6}{base:o8}{N:oj Str}{qual:Str}{scope:Scope}{f:o3}{U:o6}{A:oh}{outer:oj Env}{s₀:o7}{H₀:Hp}{E:XK}
  {x:Str}{C:o3}{np cpos pos:Pos}{aa:Expr}{ta:TE} (hx:PySem.W.excIn K C VE "ValueError.__new__"=true) (hg:Gl (cxOf (CX1 P w) P w K mg base N qual scope f U A outer s₀ H₀ E) x) (hm:mg x=some (.ref C))
  (ha:PE (cxOf (CX1 P w) P w K mg base N qual scope f U A outer s₀ H₀ E) aa ta) (hd:(x==("__debug__":Str))=false)
  (hs:starEach [aa] (envOfC qual scope s₀.heap.objs.size f U)= [(false,eval aa (envOfC qual scope s₀.heap.objs.size f U))]):
  PS (cxOf (CX1 P w) P w K mg base N qual scope f U A outer s₀ H₀ E) (.Raise (some (.Call (.Name x np) [aa] [] cpos)) none pos) (tRaise E C ta):=by
 intro oq s σ H D I h;obtain⟨bm,Nn,nm,q,bs,hdct,sn,sub,ab,col,dd,k0,k1,k2,k3,k5,mN,hC,hN,aq,T⟩:=cls_in I.mod.kin hx;have hT:bm.contains (.type "BaseException")=true:=T.hasType (by decide)
 refine wpAny_Raise_call_subT (C:=C) (nm:=nm) (q:=q) (N:=Nn) (bs:=bs) (bm:=bm) (hdct:=hdct) (sn:=sn) (sub:=sub) (ab:=ab) (col:=col) (dd:=dd) (k0:=k0) (k1:=k1) (k2:=k2) (k3:=k3) (k5:=k5)
  (mN:=mN) F.excBase_ValueError hT (I.ok.hd rfl) (by show(backTo cpos (starEach [aa] (envOfC qual scope s₀.heap.objs.size f U))).any (·.1)=false;rw [hs];rfl) aq (XC I hg hm ⟨1,?_⟩ hd)
 have au:PA (cxOf (CX1 P w) P w K mg base N qual scope f U A outer s₀ H₀ E) [aa] (tCons ta tNil):=qb ha qd hs;have hp:=au cpos oq s σ H (λvs H1=>vs.length=1/\∀e,E (.ref e) (some C) H1) I h;show wpAny _ _ (evalArgs (.ref C) true (backTo cpos (starEach [aa] (envOfC qual scope s₀.heap.objs.size f U))) []) _ _ s;have aw:starEach [aa] (cxOf (CX1 P w) P w K mg base N qual scope f U A outer s₀ H₀ E).env= [(false,eval aa (envOfC qual scope s₀.heap.objs.size f U))]:=hs;rw [aw] at hp;rw [hs];refine Uj (vg hp (λvs s₂ h₂=> ?_) λ_ _ y=>y);obtain⟨ws,H2,I2,r2,q2⟩:=h₂;obtain⟨hl,q2⟩:=q2;have bk:=I2.bk;have ax:vs.length<=sizeLine:=by rw [<-r2.length,hl];decide
 refine⟨1,ax,bk _ _ hC,hN.keeps bk,T.keeps bk,λh' e ad=> ?_⟩;show wpAny (model P w) (A.deeper (envOfC qual scope s₀.heap.objs.size f U)) (leaving (envOfC qual scope s₀.heap.objs.size f U) (.ref e)) (λ_ ag=>CX1 P w outer H₀ s₀ E (.ref e) ag) (λe' ag=>CX1 P w outer H₀ s₀ E e' ag) _;have ay:(A.deeper (envOfC qual scope s₀.heap.objs.size f U)).frames=some (envOfC qual scope s₀.heap.objs.size f U::outer):=I2.ok.frames;have ak:s₂.heap.FunFrames base (envOfC qual scope s₀.heap.objs.size f U::outer):=I2.stack;have ah:∀b∈frs (envOfC qual scope s₀.heap.objs.size f U::outer),H2 b=none:=I2.stkFree;have al:frs (envOfC qual scope s₀.heap.objs.size f U::outer)=s₀.heap.objs.size::frs outer:=rfl;have ap:s₀.heap.objs.size<=s₀.heap.objs.size:=I2.ok.above;have O:Un (frs outer) [] H₀ H2 s₀.heap s₂.heap:=I2.base;refine wpAny_leaves_madeW (base:=TI.gone s₂.heap (frs (envOfC qual scope s₀.heap.objs.size f U::outer))) (h:=s₂.heap) (L:=s₀.heap.objs.size) ay rfl (λb o e=>(TI.gone_some e).2) (funs_gone ak λb hb=>TI.gone_none hb) ad λam t af aB _ aA=> ?_;have ae:∀b o,b∉frs (envOfC qual scope s₀.heap.objs.size f U::outer)->s₂.heap.get? b=some o->am.get? b=some o:=λb o hb e=>af.1 b o (by rw [TI.gone_get hb];exact e)
 have slots:∀b o,s₂.heap.get? b=some o->(∀vs,o.data≠ .fields vs)->∃sl,am.get? b=some {o with slots:=sl}:=λb o e hn=>aA b o (ad.keeps b o e) hn
 have nd:∀b∈frs outer,∀o,s₂.heap.get? b=some o->∀vs,o.data≠ .fields vs:=λb hb o e=>by
  obtain⟨_,o',e',hn⟩:=ak.mem (show b∈(envOfC qual scope s₀.heap.objs.size f U::outer).filterMap (·.frame) from by rw [show(envOfC qual scope s₀.heap.objs.size f U::outer).filterMap (·.frame)=frs (envOfC qual scope s₀.heap.objs.size f U::outer) from rfl,al];exact ub _ hb)
  rw [e] at e';cases e';exact hn
 have ac:∀b o,s₀.heap.get? b=some o->b∉frs outer->b∉frs (envOfC qual scope s₀.heap.objs.size f U::outer):=λb o e hb hm=>by
  rw [al] at hm;rcases List.mem_cons.mp hm with rfl|hm
  ·exact absurd (uw e) (vw _)
  ·exact hb hm
 refine⟨e,C,.ref t,H2,0,I2.os,I2.bare,(by first|exact I2.tk|exact Nat.lt_of_lt_of_le I2.tk (UI _ _)|((try dsimp only);first|assumption|exact Inv.tk (by assumption)|exact Nat.succ_pos _|exact Nat.lt_of_lt_of_le (Inv.tk (by assumption)) (by assumption)|exact Nat.add_pos_left (Inv.tk (by assumption)) _|omega)),⟨?_,?_,O.free,?_,O.tups,O.frzs,O.tbls⟩,?_,af,?_,q2 e⟩
 ·intro b o e1 hn hb hx;exact ae b o (ac b o e1 hb) (O.keep b o e1 hn hb hx)
 ·intro b o e1 hn hb hx;obtain⟨sl,e2⟩:=O.slot b o e1 hn hb hx;obtain⟨ao,e3⟩:=slots b _ e2 (nd b hb _ e2);exact⟨ao,e3⟩
 ·intro b o e1 hx;obtain⟨o',e2⟩:=O.there b o e1 hx;by_cases hb:b∈frs outer
  ·obtain⟨ao,e3⟩:=slots b _ e2 (nd b hb _ e2);exact⟨_,e3⟩
  ·exact⟨o',ae b o' (ac b o e1 hb) e2⟩
 ·intro b u hb;refine(I2.hok b u hb).stay (λc v hc q=> ?_) (λ_ q=>q) λ_ _ q=>q;rw [TI.gone_get]
  ·exact q
  ·intro hm;have hn:=ah c hm;rcases hc with z|z
   ·rw [z,hb] at hn;cases hn
   ·rw [z] at hn;cases hn
 ·intro b o e1 hb;obtain⟨o',e2⟩:=O.there b o e1 (by simp)
  exact⟨o',by rw [TI.gone_get (ac b o e1 hb)];exact e2⟩
abbrev Cx.marked (X:Cx)(ee:o3)(xe:o6->o7->Prop):Cx:={X with A:=X.A.mark (some (.ref ee)),calm:=false,xe:=xe}
section
variable {X:Cx}{oq:oj (o3×Obj)}{σ:St}{H:Hp}{s:o7}{ee:o3}{xe:o6->o7->Prop}
theorem Cx.Ok.marked (ok:X.Ok):(X.marked ee xe).Ok:=
 ⟨ok.mod,ok.kind,ok.glob,ok.blt,ok.above,ok.inj,ok.has,ok.cab,(λz=>absurd z u8),ok.frames,ok.stk,ok.exf,ok.bs,ok.bsz,ok.noex,ok.exfs,ok.funs,ok.frf⟩
theorem Inv.marked (I:Inv X oq σ H s):Inv (X.marked ee xe) oq σ H s:=⟨I.ok.marked,I.os,I.bare,I.base,I.loc,I.cell,I.free,I.freeC,I.pin,I.hok,I.len,I.tk⟩
theorem Inv.unmarked (ok:X.Ok)(I:Inv (X.marked ee xe) oq σ H s):Inv X oq σ H s:=⟨ok,I.os,I.bare,I.base,I.loc,I.cell,I.free,I.freeC,I.pin,I.hok,I.len,I.tk⟩
theorem SP.unmarked (ok:X.Ok){D:Ends}{f:Flow}{s':o7}(h:SP (X.marked ee xe) oq D f s'):SP X oq D f s':=by
 cases f with
 |next=>obtain⟨O,H',I,q⟩:=h;exact⟨O,H',I.unmarked ok,q⟩
 |brk=>obtain⟨O,H',I,q⟩:=h;exact⟨O,H',I.unmarked ok,q⟩
 |cont=>obtain⟨O,H',I,q⟩:=h;exact⟨O,H',I.unmarked ok,q⟩
 |ret u=>obtain⟨v,O,H',I,r,q⟩:=h;exact⟨v,O,H',I.unmarked ok,r,q⟩
def Cat (X:Cx)(oq:oj (o3×Obj))(σ:St)(E:XK)(e:o6)(s':o7):Prop:=∃H1 s1,Inv X oq σ H1 s1/\CX1 X.prog X.w X.stack H1 s1 E e s'
theorem call_cat {k:Nat}{f:o3}{fd:FuncData}{ps:oj Str}{sp:Sp}{x:Str}{p pos:Pos}{e:Expr}{es:oj Expr}{t:TA}{Q:VK}{E:XK}(F:FnOk X.prog X.w X.K X.mg X.base (CX1 X.prog X.w) k f fd ps sp)(hr:Room k X.A)(hg:Gl X x)(hm:X.mg x=some (.ref f))
  (hk:PySem.W.keepIn X.K (.ref f)=true) (hb:J5 X.K fd ps []) (ha:PA X.nox (e::es) t) (I:Inv X oq σ H s) (h:t σ H λvs H1=>sp vs H1 Q E) (aa:(x==("__debug__":Str))=false)
  (he:starEach (e::es) X.env=(false,eval e X.env)::starEach es X.env) (ac:(backTo pos (starEach es X.env)).any (·.1)=false):
  wpAny (model X.prog X.w) X.A (eval (.Call (.Name x p) (e::es) [] pos) X.env) (EP X oq σ Q) (Cat X oq σ E) s:=by
 refine U5 (XC I hg hm ?_ aa);refine U6 (h₀:=X.base) I.ok.mod.kin hk (vg (ha pos oq s σ H _ (I.wish _) h) (λus s1 h1=> ?_) λ_ _ z=>z.elim) he ac;obtain⟨vs,H1,ad,r,q⟩:=h1;have O:Inv X oq σ H1 s1:=ad.unwish;refine⟨O.kIn,?_⟩;have hl:us.length=ps.length:=by rw [<-r.length];exact F.len _ _ _ _ q
 have U:=hb s1 us O.kIn (by rw [vR];exact hl)
 rw [vR] at U;refine wpAny_call (codeAny_mono (F.run X.A X.stack s1 H1 ⟨us,[]⟩ us vs Q E hr O.env0 U r q (.inl O.tk)) λr s' hq=> ?_);cases r with
 |error e=>exact⟨H1,s1,O,hq⟩
 |ok fl=>
  cases fl with
  |ret u=>exact O.after hq
  |next=>exact False.elim hq
  |brk=>exact False.elim hq
  |cont=>exact False.elim hq
end
theorem Fun.okX {P:o9}{w:og}{K:o0}{mg:Str->om o6}{base:o8}{x qual:Str}{st:Stmt}{f:o3}{fd:FuncData}{N ps:oj Str}{k:Nat}{sp:Sp}(F:Fun K x qual st f fd)(S:qt N ps (qi st))(len:∀vs H Q E,sp vs H Q E->vs.length=ps.length)
  (O:∀(cdv:o6) (A:oh) (outer:oj Env) (s:o7) (H:Hp) (vs:oj V) (Q:VK) (E:XK),Room k (A.deeper (envOfC qual (qi st) s.heap.objs.size f cdv))->sp vs H Q E->
   ∃t,PSs (cxOf (CX1 P w) P w K mg base N qual (qi st) f cdv A outer s H E) (yA st) t/\t {nx:=λ_ H'=>Q .non H',rt:=Q} (WN N vs) H):FnOk P w K mg base (CX1 P w) (k+1) f fd ps sp:=by
 obtain⟨oc,od,kV,doc,pm,an,cdv,ct,osl,rfl,lk,U⟩:=F.ex;exact fn_of lk U S len λA outer s H vs Q E hr aa=>O cdv A outer s H vs Q E hr aa
end L2
namespace HT
open PySem PyProof.Rows
section
variable {prog:o9}{w:og}{A:oh}{E:o6->o7->Prop}{s:o7}
theorem getItem_tuple_all {t sl:o3}{items:Array o6}{vl vu:o6}{lo hi:om Int}{Q:o6->o7->Prop}(O:IsTup s.heap t items)(hs:s.heap.IsSliceOf sl vl vu .none)(pl:IsPart vl lo)(pu:IsPart vu hi)
  (hw:sIx items.size 0 lo=0/\sIx items.size items.size hi=items.size) (h:Q (.ref t) s):wpAny (model prog w) A (getItem (.ref t) (.ref sl)) Q E s:=by
 obtain⟨os,aa,ac,ae⟩:=id hs;have ad:s.TypeIs (.ref sl) "slice":=⟨os,aa,ac⟩;unfold getItem
 try with_reducible refine wpAny_holding ?_
 first|refine wpAny_bind (um ?_)|skip
 refine wpAny_bind (wpAny_sequenceKey O.typeIs (by decide) ?_)
 refine wpAny_bind (vm (name:=Str.ofString "__getitem__") O.typeIs vt
  (vA vt O.typeIs entry_tuple_getitem ?_ (args_tuple_getitem _ _)))
 show wpAny _ _ (Builtin.Tuple.tupleItemsOf (.ref t)>>=_) _ _ s;refine wpAny_bind (tupleItemsOf_ O ?_);refine wpAny_bind (wpAny_typeOf ad ?_);rw [if_pos (by decide)]
 refine wpAny_bind (Y5 hs pl pu ?_);have U:((((sIx items.size 0 lo:Nat):Int)==0&&(1:Int)==1&&(sIx items.size items.size hi-sIx items.size 0 lo)==items.size)=true):=by
  rw [hw.1,hw.2];simp
 show wpAny _ _ (if(((sIx items.size 0 lo:Nat):Int)==0&&(1:Int)==1&&(sIx items.size items.size hi-sIx items.size 0 lo)==items.size)=true then _ else _) _ _ s
 rw [if_pos U];unfold Builtin.Tuple.tupleIsExact;refine wpAny_bind (wpAny_bind (wpAny_typeOf O.typeIs (um ?_)));rw [if_pos (by decide)]
 exact wpAny_bind (UD (um ⟨0,um h⟩))
end
end HT
namespace L2
open PySem PySem.Spec PyProof.Rows
section
variable {X:Cx}
def rSlG (K:o0):V->om Int->om Int->Hp->VK->Prop:=λx lo hi H Q=>∃a xs,x= .ref a/\SqT K H a xs/\
 (HT.sIx xs.length 0 lo=0/\HT.sIx xs.length xs.length hi=xs.length->Q (.ref a) H)/\
 (¬(HT.sIx xs.length 0 lo=0/\HT.sIx xs.length xs.length hi=xs.length)->∀p,H p=none->Q (.ref p) (upd H p (.tup (cutV xs lo hi))))
theorem sl_tupG:SlR X (rSlG X.K):=by
 intro oq s σ H x v vl vu lo hi sl Q I rx hs pl pu h;obtain⟨a,xs,rfl,hx,q1,q2⟩:=h;by_cases U:HT.sIx xs.length 0 lo=0/\HT.sIx xs.length xs.length hi=xs.length
 ·cases rx;obtain⟨its,r,ht,hz⟩:=I.tuple hx;have O:its.toArray.size=xs.length:=by rw [uj];exact r.length.symm
  refine⟨"tuple",_,PyProof.Rows.slot_tuple_getitem.lookup,ht.typeIs,?_⟩;exact HT.getItem_tuple_all ht hs pl pu (by rw [O];exact U) ⟨.ref a,H,I,1,q1 U⟩
 ·exact sl_tup oq s σ H (.ref a) v vl vu lo hi sl Q I rx hs pl pu ⟨a,xs,1,hx,U,q2 U⟩
end
def yJ (n:Nat):Kd->Str->om Pt
 | .words,z=>some (.s z)
 | .box,z=>if z∈BX then some (.s z) else none
 | .line,z=>((List.range n).find? λi:Nat=>decide ((toString (1+(i:Int)):Str)=z)).map λi:Nat=> .n (1+(i:Int))
def yO (n:Nat):oj Kd->oj Str->om (oj Pt)
 | [],_=>some []
 |k::ks,z::zs=>match yJ n k z,yO n ks zs with
  |some p,some ps=>some (p::ps)
  |_,_=>none
 |_::_,[]=>none
def Jz (w:Str):om (oj Kd):=(FRM.find? λx=>decide (x.1=w)).map (·.2)
def pcs (ks:oj Kd)(z:Str):oj Str:=spl (if Kd.words∈ks then ks.length else z.length+1) z
def ZD (n:Nat)(z:Str):om Rw:=
 if Qq z=true then match Jz (hd z) with
  |none=>none
  |some ks=>if(pcs ks z).length=1+ks.length then(yO n ks ((pcs ks z).drop 1)).map λl=>(hd z,l) else none
 else none
theorem Xy {w:Str}{ks:oj Kd}(h:Jz w=some ks):(w,ks)∈FRM:=by
 unfold Jz at h;cases e:FRM.find? λx=>decide (x.1=w) with
 |none=>rw [e] at h;cases h
 |some x=>
  rw [e] at h;have O:=List.find?_some e;have hm:=vP e;cases h;have:x.1=w:=uh O;subst this;exact hm
theorem ZK {w:Str}(h:Jz w=none):∀x∈FRM,x.1≠w:=by
 unfold Jz at h;rw [Option.map_eq_none_iff,U9] at h;intro x O e;exact h x O (uc e)
theorem partOf_ok {n m:Nat}{k:Kd}{z:Str}{p:Pt}(U:z.length<=m)(ha:z.cps.toList.all Qs=true)(h:yJ n k z=some p):ptOk n m k p/\p.t=z:=by
 cases k with
 |words=>cases h;exact⟨⟨U,ha⟩,1⟩
 |box=>
  simp only [yJ] at h;by_cases O:z∈BX
  ·rw [if_pos O] at h;cases h;exact⟨O,1⟩
  ·rw [if_neg O] at h;cases h
 |line=>
  simp only [yJ] at h;cases e:(List.range n).find? λi:Nat=>decide ((toString (1+(i:Int)):Str)=z) with
  |none=>rw [e] at h;cases h
  |some i=>
   rw [e] at h;cases h;have h1:=List.find?_some e;have h2:=List.mem_range.mp (vP e);exact⟨⟨by omega,by omega⟩,uh h1⟩
theorem wS {n m:Nat}:∀{ks:oj Kd}{zs:oj Str}{ps:oj Pt},(∀z∈zs,z.length<=m/\z.cps.toList.all Qs=true)->zs.length=ks.length->yO n ks zs=some ps->JV n m ks ps/\ps.map Pt.t=zs
 | [],[],ps,_,_,h=>by cases h;exact⟨trivial,1⟩
 | [],_::_,_,_,hl,_=>by simp at hl
 |_::_,[],_,_,hl,_=>by simp at hl
 |k::ks,z::zs,ps,hz,hl,h=>by
  unfold yO at h;split at h
  ·rename_i p qs h1 h2
   cases h;obtain⟨O,U⟩:=partOf_ok (hz z ud).1 (hz z ud).2 h1;obtain⟨b1,b2⟩:=wS (λy hy=>hz y (ub _ hy)) (by simpa using hl) h2
   exact⟨⟨O,b1⟩,by rw [uq,U,b2]⟩
  ·cases h
def WM:oj (oj Nat)->oj Nat
 | []=> []
 | [x]=>x
 |x::y::r=>x++32::WM (y::r)
theorem joinL_cons (x:oj Nat){q:oj (oj Nat)}(O:q≠ []):WM (x::q)=x++32::WM q:=by
 cases q with
 |nil=>exact absurd rfl O
 |cons y r=>rfl
theorem Wy:∀(n:Nat) (L:oj Nat),WM (cutL 32 n L)=L
 |0,L=>by simp [cutL,WM]
 |n+1,[]=>by simp [cutL,WM]
 |n+1,a::r=>by
  by_cases h:a=32
  ·have O:=Wy n r;obtain⟨p,q,e⟩:=jS 32 n r;rw [cutL,if_pos h,joinL_cons [] (by rw [e];simp),O,h]
   rfl
  ·have O:=Wy (n+1) r;obtain⟨p,q,e⟩:=jS 32 (n+1) r;rw [e] at O;simp only [cutL,if_neg h,e];cases q with
   |nil=>simp only [WM] at O⊢;rw [O]
   |cons y t=>
    simp only [WM] at O⊢;rw [Ul,O]
theorem join_ofL:∀l:oj (oj Nat),(Str.join " " (l.map ofL)).cps.toList=WM l
 | []=>rfl
 | [x]=>by show(ofL x).cps.toList=x;unfold ofL;simp
 |x::y::r=>by
  have O:=join_ofL (y::r);show(Str.join " " (ofL x::ofL y::r.map ofL)).cps.toList=_;rw [jY];have e:(ofL x).cps.toList=x:=by unfold ofL;simp
  rw [e];show x++32::(Str.join " " ((y::r).map ofL)).cps.toList=_;rw [O]
  rfl
theorem spl_back (n:Nat)(z:Str):Str.join " " (spl n z)=z:=by
 unfold spl;have h:=join_ofL (cutL 32 n z.cps.toList);rw [Wy] at h;rw [<-QS (Str.join " " ((cutL 32 n z.cps.toList).map ofL)),h,QS]
theorem cut_head:∀(n:Nat) (L:oj Nat),∃q,cutL 32 (n+1) L=Jj 32 L::q
 |n,[]=>⟨[],by simp [cutL,Jj]⟩
 |n,a::r=>by
  by_cases h:a=32
  ·exact⟨cutL 32 n r,by simp [cutL,Jj,h]⟩
  ·obtain⟨q,e⟩:=cut_head n r;exact⟨q,by simp only [cutL,if_neg h,e,Jj]⟩
theorem spl_head (n:Nat)(z:Str):∃q,spl (n+1) z=hd z::q:=by
 obtain⟨q,e⟩:=cut_head n z.cps.toList;exact⟨q.map ofL,by unfold spl hd;rw [e];rfl⟩
theorem cut_sub:∀(n:Nat) (L:oj Nat),∀p∈cutL 32 n L,p.length<=L.length/\∀c∈p,c∈L
 |0,L=>λp O=>by
  simp [cutL] at O;subst O;exact⟨ug _,λc U=>U⟩
 |n+1,[]=>λp O=>by
  simp [cutL] at O;subst O;exact⟨ug _,λc U=>U⟩
 |n+1,a::r=>λp O=>by
  by_cases h:a=32
  ·rw [cutL,if_pos h] at O;rcases List.mem_cons.mp O with rfl|O
   ·exact⟨uW _,λc U=>by simp at U⟩
   ·obtain⟨h1,h2⟩:=cut_sub n r p O;exact⟨by simp;omega,λc U=>ub _ (h2 c U)⟩
  ·obtain⟨p0,q,e⟩:=jS 32 (n+1) r;have ih:=cut_sub (n+1) r;rw [e] at ih;simp only [cutL,if_neg h,e] at O;rcases List.mem_cons.mp O with rfl|O
   ·obtain⟨h1,h2⟩:=ih p0 ud;refine⟨by simp;omega,λc U=> ?_⟩
    rcases List.mem_cons.mp U with rfl|U
    ·exact ud
    ·exact ub _ (h2 c U)
   ·obtain⟨h1,h2⟩:=ih p (ub _ O);exact⟨by simp;omega,λc U=>ub _ (h2 c U)⟩
theorem spl_ok {n m:Nat}{z:Str}(hz:z.length<=m)(ha:z.cps.toList.all Qs=true):∀p∈spl n z,p.length<=m/\p.cps.toList.all Qs=true:=by
 intro p O;obtain⟨q,U,rfl⟩:=List.mem_map.mp O;obtain⟨h1,h2⟩:=cut_sub n z.cps.toList q U;have e:(ofL q).cps.toList=q:=by unfold ofL;simp
 refine⟨?_,?_⟩
 ·have:(ofL q).length=q.length:=by unfold ofL Str.length;simp
  rw [this];have:z.cps.toList.length=z.length:=by simp [Str.length]
  omega
 ·rw [e,vX];intro c hc;exact List.all_eq_true.mp ha c (h2 c hc)
theorem rowOf_ok {n:Nat}{z:Str}{r:Rw}(h:ZD n z=some r):jg n 300 r/\yG r=z:=by
 unfold ZD at h;split at h
 ·rename_i ht
  have O:=ht;unfold Qq at O;rw [ur,uU] at O;split at h
  ·cases h
  ·rename_i ks hk
   split at h
   ·rename_i hl
    cases e:yO n ks ((pcs ks z).drop 1) with
    |none=>rw [e] at h;cases h
    |some l=>
     rw [e] at h;cases h;have hm:=Xy hk;have U:∀p∈(pcs ks z).drop 1,p.length<=300/\p.cps.toList.all Qs=true:=λp hp=>spl_ok O.1 O.2 p (List.mem_of_mem_drop hp);obtain⟨a1,a2⟩:=wS U (by rw [vI,hl];omega) e
     refine⟨⟨ks,hm,a1⟩,?_⟩;have aa:∃j,(if Kd.words∈ks then ks.length else z.length+1)=j+1:=by
      split
      ·rename_i hw
       exact⟨ks.length-1,by have:=List.length_pos_iff.mpr (λe=>by rw [e] at hw;simp at hw:ks≠ []);omega⟩
      ·exact⟨z.length,1⟩
     obtain⟨j,hj⟩:=aa;obtain⟨q,hq⟩:=spl_head j z;have hp:pcs ks z=hd z::q:=by unfold pcs;rw [hj];exact hq
     have hb:Str.join " " (pcs ks z)=z:=spl_back _ z;show Str.join " " (hd z::l.map Pt.t)=z;rw [a2];rw [hp] at hb⊢;exact hb
   ·cases h
 ·cases h
def ExcO (a C:o3):HO:= .ext λh=>∃o,h.get? a=some o/\o.cls= .ref C/\PySem.W.notCls o=true
theorem ExcO.ok {P:o9}{w:og}{H:Hp}{h:o8}{a C:o3}{o:Obj}(e:h.get? a=some o)(c:o.cls= .ref C)(n:PySem.W.notCls o=true):QJ P w H h a (ExcO a C):=
 ⟨⟨o,e,c,n⟩,⟨o,e⟩,λ_ _ ⟨o,e,c,n⟩ k=>⟨o,k o e,c,n⟩⟩
theorem QJ.here {P:o9}{w:og}{H:Hp}{h:o8}{a:o3}{o:HO}(x:QJ P w H h a o):∃u,h.get? a=some u:=by
 cases o with
 |lst xs=>obtain⟨_,_,_,_,e⟩:=x;exact⟨_,e⟩
 |tup xs=>obtain⟨_,_,_,u,e,_⟩:=x;exact⟨_,e⟩
 |dK kvs=>obtain⟨_,_,_,_,u,_,_,e,_⟩:=x;exact⟨_,e⟩
 |dT kvs=>obtain⟨_,_,_,_,u,_,_,e,_⟩:=x;exact⟨_,e⟩
 |set S n=>obtain⟨u,_,_,_,e,_⟩:=x;exact⟨_,e⟩
 |ins C dx fs=>obtain⟨_,_,_,e,_⟩:=x;exact⟨_,e⟩
 |own y=>exact x
 |xd fs=>obtain⟨_,⟨_,_,_,e,_⟩,_⟩:=x;exact⟨_,e⟩
 |rng lo hi=>obtain⟨_,_,_,e⟩:=x;exact⟨_,e⟩
 |frz ob u=>obtain⟨e,_⟩:=x;exact⟨_,e⟩
 |tbl ps=>exact⟨_,show h.get? a=some _ from x⟩
 |met f y=>exact⟨_,show h.get? a=some _ from x⟩
 |ext φ=>obtain⟨_,q,_⟩:=x;exact q
def Ends.less (D:Ends)(i:Nat):Ends:={nx:=λσ H=>D.nx (σ.set i none) H,rt:=D.rt,bk:=λσ H=>D.bk (σ.set i none) H,ct:=λσ H=>D.ct (σ.set i none) H}
section
variable {X:Cx}{oq:oj (o3×Obj)}{σ:St}{H:Hp}{s:o7}
theorem xz {M:Model}{A:oh}{E:o6->o7->Prop}{i:Nat}{x:Str}{pos:Pos}{Q:Unit->o7->Prop}(I:Inv X oq σ H s)(hN:X.N.Nodup)(hi:X.N[i]? =some x)(hx:X.env.scope.names.lookup x=some .local)
  (h:∀s',Inv X oq (σ.set i none) H s'->Q Unit.unit s'):wpAny M A (do bindName X.env x .none;unbindBehindTheSuite X.env x pos) Q E s:=by
 have hk:X.env.kindOf x=some .local:=hx;have ac:(X.env.scope.kind== .class||(X.env.scope.kind== .module&&X.env.locals !=X.env.globals))=false:=by rw [I.ok.kind];rfl
 have ad:i<σ.length:=by rw [I.len];exact(List.getElem?_eq_some_iff.mp hi).1
 refine wpAny_bind (wpAny_bindName (xx (v:= .non) I hN hi (.inl hx) rfl (λs1 O=> ?_) (.inr hx)));obtain⟨m,hn,hl⟩:=id O.loc;have aa:(m x).isSome=true:=by
  obtain⟨u,ru,q⟩:=hl i x .non hi (by rw [U1 ad]) (.inl hx)
  rcases q with⟨_,e⟩|⟨k,_⟩
  ·rw [e];rfl
  ·rw [hk] at k;rcases k with k|k<;>cases k
 unfold unbindBehindTheSuite;refine wpAny_onRaise ?_;unfold unbindName;refine wpAny_bind (wpAny_point (wpAny_bind ?_));unfold deleteName;simp only [hk,ac];rw [if_neg (by decide)]
 refine wpAny_bind (wpAny_nsDel_keeps hn λh2 v ae U=> ?_);rw [aa];simp only [if_true,Bool.not_true,vJ,UJ];have cne:=O.cne;have af:HOk X.prog X.w H h2:=HOk.sameBut O.hok O.free U;have I2:Inv X oq (σ.set i none) H {s1 with heap:=h2}:=by
  refine⟨O.ok,O.os,O.bare,⟨λb o e n hb hx=> ?_,λb o e n hb hx=> ?_,O.base.free,λb o e hx=> ?_,O.base.tups,O.base.frzs,O.base.tbls⟩,⟨_,ae,λj y v' e1 e2 e3=> ?_⟩,λy c e=> ?_,O.free,O.freeC,λp hp=> ?_,af,by rw [List.length_set];exact I.len,O.tk⟩
  ·exact(U.2 b (uI (Nat.lt_of_lt_of_le (uw e) O.ok.above))).trans (O.base.keep b o e n hb hx)
  ·obtain⟨sl,e1⟩:=O.base.slot b o e n hb hx;exact⟨sl,(U.2 b (uI (Nat.lt_of_lt_of_le (uw e) O.ok.above))).trans e1⟩
  ·obtain⟨o',e1⟩:=O.base.there b o e hx;exact⟨o',(U.2 b (uI (Nat.lt_of_lt_of_le (uw e) O.ok.above))).trans e1⟩
  ·by_cases hj:j=i
   ·subst hj;rw [U1 ad] at e2;cases e2
   ·rw [Ui (U0 hj)] at e2;obtain⟨u',r',q⟩:=hl j y v' e1 (by rw [Ui (U0 hj)];exact e2) e3
    refine⟨u',r',?_⟩;rcases q with⟨k,e⟩|⟨k,c,e,z⟩
    ·refine .inl ⟨k,?_⟩;have ag:y≠x:=λe=>hj (W0 hN e1 (e▸hi));simp [ag,e]
    ·exact .inr ⟨k,c,e,z.sameBut U (cne y c e)⟩
  ·obtain⟨w',z⟩:=O.cell y c e;exact⟨w',z.sameBut U (cne y c e)⟩
  ·obtain⟨e,n,ne,nf,d⟩:=O.pin p hp;exact⟨(U.2 p.1 ne).trans e,n,ne,nf,d⟩
 exact um (wpAny_point (h _ I2))
theorem catch_as {D:Ends}{e:o6}{s':o7}{c n:Str}{i:Nat}{np aw:Pos}{C':o3}{b₀:Stmt}{ae:oj Stmt}{ts:TS}
  (aE:Cat X oq σ (λv C H2=>∃Cc,C=some Cc/\PySem.W.exmOne X.K (.ref Cc) (.ref C')=some true/\∀O,v= .ref O->H2 O=none->ts (D.less i) (σ.set i (some (.ref O))) (upd H2 O (ExcO O Cc))) e s') (af:X.stack=X.env::X.outer/\X.env.frame=some X.env.locals)
  (hg:Gl X c) (hm:X.mg c=some (.ref C')) (hN:X.N.Nodup) (hi:X.N[i]? =some n) (hn:X.env.scope.names.lookup n=some .local) (hs:∀ee xe,PSs (X.marked ee xe) (b₀::ae) ts) (aF:(c==("__debug__":Str))=false):
  wpAny (model X.prog X.w) X.A (noteFrame e X.env) (λ_ s2=>wpAny (model X.prog X.w) X.A (setFlight e none) (λ_ s3=>wpAny (model X.prog X.w) X.A (handleBy e X.env [.ExceptHandler (some (.Name c np)) (some n) (b₀::ae) aw]) (SP X oq D) X.xe s3) X.xe s2) X.xe s':=by
 obtain⟨H1,s1,I,O,Cc,a0,H',B,rfl,aG,ao,htk,ac,ak,U,hold,C2,hC,hx,ap⟩:=aE;cases hC;have aq:H' O=none:=by
  cases q:H' O with
  |none=>rfl
  |some u=>
   obtain⟨o,z⟩:=(ak O u q).here;rw [U.2.1] at z;cases z
 have ap:=ap O rfl aq;have nd:∀b∈frs X.stack,∀o,s'.heap.get? b=some o->∀vs,o.data≠ .fields vs:=λb hb o e=>by
  obtain⟨_,o',e',hn⟩:=U.2.2.1.mem (show b∈X.stack.filterMap (·.frame) from hb)
  rw [e] at e';cases e';exact hn
 have ax:∀o,s1.heap.get? O=some o->False:=λo z=>by
  by_cases hb:O∈frs X.stack
  ·obtain⟨_,_,_,oe,vs,_,_,_,he,_,hd,_⟩:=U;exact nd O hb oe he vs hd
  ·obtain⟨o',q⟩:=hold O o z hb;rw [U.2.1] at q;cases q
 have step:∀hk,B.StaysIn hk->s'.heap.UpToSlots hk->(∃o,hk.get? O=some o/\o.cls= .ref Cc/\PySem.W.notCls o=true)->Inv X oq σ (upd H' O (ExcO O Cc)) {s' with heap:=hk}:=by
  intro hk hB hU ⟨oe,he,hc,aH⟩;have aI:∀b o o',B.get? b=some o'->s'.heap.get? b=some o->hk.get? b=some o:=λb o o' e1 e2=>by
   have:=U.1 b o' e1;rw [e2] at this;cases this;exact hB b o e1
  have aJ:∀b o,s1.heap.get? b=some o->b≠O:=λb o e z=>ax o (z▸e);have ay:HOk X.prog X.w (upd H' O (ExcO O Cc)) hk:=λb u e=>by
   by_cases z:b=O
   ·subst z;rw [qf] at e;cases e;exact ExcO.ok he hc aH
   ·rw [qh z] at e;have ag:∀c u,H' c=some u->upd H' O (ExcO O Cc) c=some u:=λc u q=>by rw [qh (qj q aq)];exact q
    exact(ak b u e).stay (λc v _ q=>hB c v q) (λc q=>ag c _ q) λc xs q=>ag c _ q
  have hT:∀b u,H' b=some u->upd H' O (ExcO O Cc) b=some u:=λb u q=>by rw [qh (qj q aq)];exact q
  refine I.call' (s':={s' with heap:=hk}) (ch:= []) aG ⟨?_,?_,?_,?_,λb xs q=>hT b _ (ac.tups b xs q),λb o u q=>hT b _ (ac.frzs b o u q),λb ps q=> ?_⟩ ay ao (λb z=>by simp at z)
  ·intro b o e1 hn hb ad;obtain⟨o',e2⟩:=hold b o e1 hb;exact aI b o o' e2 (ac.keep b o e1 hn hb ad)
  ·intro b o e1 hn hb ad;obtain⟨sl,e2⟩:=ac.slot b o e1 hn hb ad;obtain⟨aA,e3⟩:=hU b _ e2 (nd b hb _ e2);exact⟨aA,e3⟩
  ·intro b o e1 hn ad;rw [qh (aJ b o e1)];exact ac.free b o e1 hn ad
  ·intro b o e1 ad;by_cases hb:b∈frs X.stack
   ·obtain⟨o',e2⟩:=ac.there b o e1 ad;obtain⟨aA,e3⟩:=hU b _ e2 (nd b hb _ e2);exact⟨_,e3⟩
   ·obtain⟨o',e2⟩:=hold b o e1 hb;exact⟨o',hB b o' e2⟩
  ·obtain⟨more,q2⟩:=ac.tbls b ps q;exact⟨more,hT b _ q2⟩
 have aB:∀{l:oj Env}{hk:o8},Heap.FlyingW B l O (.ref Cc) a0 hk->∃o,hk.get? O=some o/\o.cls= .ref Cc/\PySem.W.notCls o=true:=λf=>by
  obtain⟨_,_,_,oe,vs,_,_,_,he,hc,hd,_⟩:=f;exact⟨oe,he,hc.1,by unfold PySem.W.notCls;rw [hd]⟩
 rw [af.1] at U;have aK:X.A.frames=some (X.env::X.outer):=by rw [I.ok.frames,af.1]
 refine wpAny_looks_onW (base:=B) aK af.2 U λh1 au al=> ?_;refine wpAny_landsW au λh2 aa am=> ?_;have I2:=step h2 aa.1 (al.trans am) (aB aa);refine wpAny_handleBy_cons (codeAny_handlers_test ?_) (by intro q;cases q)
 refine XC (X:=X.marked O X.xe) I2.marked hg hm ?_ aF;obtain⟨oe,he,aC⟩:=aa.there;have LT:PySem.W.Looks (model X.prog X.w) h2 (typeOf (.ref O)) (.ref Cc):=aC▸(PySem.W.Looks.ld he).andThen .now;refine PySem.W.exm_one I2.kIn LT hx _ _ _ _ (λb o e=>e) ?_;refine codeAny_handlers_suite_as (lands_againW aa λh3 ah aD=> ?_);have I3:=step h3 ah.1 ((al.trans am).trans aD) (aB ah);refine xx (v:= .ref O) I3 hN hi (.inl hn) rfl (λs4 I4=> ?_) (.inr hn);refine vg (hs O _ oq _ _ _ (D.less i) I4.marked ap) (λf s5 h5=> ?_) λ_ _ z=>z;have h5:=h5.unmarked I.ok;cases f with
 |next=>obtain⟨σ',H5,I5,q⟩:=h5;exact xz I5 hN hi hn λs6 I6=>⟨_,H5,I6,q⟩
 |brk=>obtain⟨σ',H5,I5,q⟩:=h5;exact xz I5 hN hi hn λs6 I6=>⟨_,H5,I6,q⟩
 |cont=>obtain⟨σ',H5,I5,q⟩:=h5;exact xz I5 hN hi hn λs6 I6=>⟨_,H5,I6,q⟩
 |ret u=>obtain⟨v,σ',H5,I5,r,q⟩:=h5;exact xz I5 hN hi hn λs6 I6=>⟨v,_,H5,I6,r,q⟩
def tTryEA (K:o0)(sp:Sp)(t:TA)(i:Nat)(C':o3)(ts:TS):TS:=λD σ H=>t σ H λvs H1=>sp vs H1 (λ_ H2=>D.nx σ H2) (λv C H2=>∃Cc,C=some Cc/\PySem.W.exmOne K (.ref Cc) (.ref C')=some true/\∀ea,v= .ref ea->H2 ea=none->ts (D.less i) (σ.set i (some (.ref ea))) (upd H2 ea (ExcO ea Cc)))
theorem ps_tryEA {i k:Nat}{f:o3}{fd:FuncData}{ps:oj Str}{sp:Sp}{x c n:Str}{p np cpos U aa pos:Pos}{e:Expr}{es:oj Expr}{t:TA}{C':o3}{b₀:Stmt}{O:oj Stmt}{ts:TS}(hN:X.N.Nodup)(hi:X.N[i]? =some n)(hn:X.env.scope.names.lookup n=some .local)
  (F:FnOk X.prog X.w X.K X.mg X.base (CX1 X.prog X.w) k f fd ps sp) (hr:Room k X.A)
  (hg:Gl X x) (hm:X.mg x=some (.ref f)) (hk:PySem.W.keepIn X.K (.ref f)=true) (hb:J5 X.K fd ps []) (ha:PA X.nox (e::es) t) (ac:X.stack=X.env::X.outer/\X.env.frame=some X.env.locals) (ad:Gl X c) (ae:X.mg c=some (.ref C'))
  (hs:∀ee xe,PSs (X.marked ee xe) (b₀::O) ts) (af:(x==("__debug__":Str))=false) (ag:(c==("__debug__":Str))=false)
  (he:starEach (e::es) X.env=(false,eval e X.env)::starEach es X.env) (ah:(backTo cpos (starEach es X.env)).any (·.1)=false) (ak:swapsWith (.Call (.Name x p) (e::es) [] cpos) none U.line X.env=pure false):
  PS X (.Try [.Expr (.Call (.Name x p) (e::es) [] cpos) U] [.ExceptHandler (some (.Name c np)) (some n) (b₀::O) aa] [] [] pos) (tTryEA X.K sp t i C' ts):=by
 intro oq s σ H D I h;refine wpAny_Try_except (wpAny_execs_cons ?_);refine vg (wpAny_Expr_any (Q:=SP X oq D) (vg (call_cat F hr hg hm hk hb ha I h af he ah) (λv s1 ⟨y,H1,I1,r1,q1⟩=>⟨σ,H1,I1,q1⟩) λ_ _ z=>z) I.quiet ak) (λfl s1 q=> ?_) λe' s1 q=>catch_as q ac ad ae hN hi hn hs ag;cases fl with
 |next=>exact Uc (Uc q)
 |ret v=>exact q
 |brk=>exact q
 |cont=>exact q
end
end L2
namespace PySem.AwV
open PySem PySem.Calls PyProof.Rows Builtin Builtin.ObjectAttr Builtin.Getset_descriptor PySem.W
structure Jm (K:Frag)(C:o3):Prop where
 ga:findIn K (.ref C) "__getattribute__"=some (some (.builtin "BaseException.__getattribute__"))
 gt:findIn K (.ref C) "__getattr__"=some none
 cl:findIn K (.ref C) "__class__"=some (some (.builtin "object.__class__"))
 sp:specialIn K (.builtin "object.__class__") "__get__"=some (some (.builtin "getset_descriptor.__get__"))
 tk:takesIn K (.builtin "object.__class__")=some true
 ob:mroIn K C (.type "object")=some true
 be:mroIn K C (.type "BaseException")=some true
def ExcAt (x C:o3)(h:o8):Prop:=∃o,h.get? x=some o/\o.cls= .ref C/\notCls o=true
section
variable {prog:o9}{w:og}{A:oh}{E:o6->o7->Prop}{s:o7}{K:Frag}{x C:o3}
theorem xD {M:Model}{h:o8}(I:ExcAt x C h):Looks M h (typeOf (.ref x)) (.ref C):=by
 obtain⟨o,e,c,_⟩:=I;exact c▸(Looks.ld e).andThen .now
theorem exc_find {M:Model}{h:o8}(X:K.In h)(Z:Jm K C):Looks M h (find (.ref x) (.ref C) "__class__") (.bind (.builtin "getset_descriptor.__get__") (.builtin "object.__class__")):=by
 refine(looks_findIn (M:=M) X Z.cl).andThen (Looks.andThen (a:=some (.builtin "getset_descriptor.__get__")) (show Looks M h (getOf (some _)) _ from looks_specialIn X Z.sp) ?_)
 have O:=looks_takesIn (M:=M) X Z.tk;exact(show Looks M h (dataDescriptor? (some _) (some _)) (some (_,_)) from
  O.andThen .now).andThen (Looks.tag .now)
theorem exc_get {O:o6}{R:Result->o7->Prop}(X:K.In s.heap)(I:ExcAt x C s.heap)(Z:Jm K C)(h:R (.ok (.ret (.ref C))) s):
  codeAny (model prog w) A (.call (.builtin "getset_descriptor.__get__") ⟨[.builtin "object.__class__",.ref x,O],[]⟩) R s:=by
 obtain⟨U,g,dr,t,os⟩:=s;have L0:=xD (M:=model prog w) I;have L1:=looks_mroIn (M:=model prog w) X Z.ob;have ck:=KF.slot_gs.check (model prog w) A;refine codeAny_call_builtin KF.slot_gs.plain KF.entry_gs
  (KF.slot_gs.check _ _ _ _ _ _ _ _ KF.type_class (KF.args_gs _ _ _) ?_)
 unfold Builtin.«getset_descriptor.__get__»;unfold descrGet;rw [dga_obj];refine wpAny_bind (um ?_);unfold descrGetter descrCheckInstance;unfold descrNameAndClass isInstance;simp only [KF.owner_class]
 repeat lk
 refine⟨Code.quiet_builtin _ (by decide+kernel),
  codeAny_builtin KF.entry_class ?_⟩
 unfold Builtin.«object.__class__» shownTypeOf
 repeat lk
 exact h
theorem exc_check {rest:oj o6}{Q:Unit->o7->Prop}(X:K.In s.heap)(I:ExcAt x C s.heap)(Z:Jm K C)(ha:argsOk "BaseException.__getattribute__" ⟨.ref x::rest,[]⟩)(h:Q Unit.unit s):
  wpAny (model prog w) A (checkBuiltinCall "BaseException.__getattribute__" ⟨.ref x::rest,[]⟩) Q E s:=by
 have O:splitId "BaseException.__getattribute__"=some ("BaseException","__getattribute__"):=by decide+kernel
 have hk:builtinKind "BaseException.__getattribute__"=some .slot:=by
  simp only [builtinKind,O]
  decide+kernel
 have LI:Looks (model prog w) s.heap (isInstance (.ref x) (.type "BaseException")) true:=(xD I).andThen (looks_mroIn X Z.be);simp only [checkBuiltinCall,hk,O];refine wpAny_bind (LI A _ E s (λ_ _ e=>e) ?_);simp only [Bool.not_true,vJ,UJ];cases U:Manifest.signature? "BaseException.__getattribute__" with
 |none=>exact um h
 |some aa=>
  simp only [argsOk,U] at ha;have h2:Bind.checkArgs "BaseException.__getattribute__" aa ⟨.ref x::rest,[]⟩=pure Unit.unit:=ha;exact(show wpAny (model prog w) A (Bind.checkArgs _ aa _) Q E s from by
   rw [h2];exact um h)
theorem exc_entry {tk:Tok}{Q:Fin->o7->Prop}(X:K.In s.heap)(I:ExcAt x C s.heap)(Z:Jm K C)(h:Q (.done (.ret (.ref C))) s):
  wpAny (model prog w) A (Builtin.«object.__getattribute__» ⟨[.ref x,.str "__class__" tk],[]⟩) Q E s:=by
 have O:=I;have U:=X;obtain⟨hh,g,dr,t,os⟩:=s;have L0:=xD (M:=model prog w) I;have L1:=exc_find (M:=model prog w) (x:=x) X Z;refine wpAny_bind (um (wpAny_bind (um (wpAny_bind (L0.at (wpAny_bind (L1.at ?_)))))));show wpAny (model prog w) A (holding [.builtin "object.__class__"] (call (.builtin "getset_descriptor.__get__") [.builtin "object.__class__",.ref x,.ref C])>>=ret) Q E _;refine wpAny_bind (wpAny_holding (wpAny_call (exc_get U O Z ?_)));exact um h
theorem exc_class {Q:om o6->o7->Prop}(X:K.In s.heap)(I:ExcAt x C s.heap)(Z:Jm K C)(h:Q (some (.ref C)) {s with toks:=s.toks+1}):
  wpAny (model prog w) A (getAttr? (.ref x) "__class__") Q E s:=by
 have O:=I;have U:=X;obtain⟨hh,g,dr,t,os⟩:=s;have L0:=xD (M:=model prog w) I;have L1:=looks_findIn (M:=model prog w) X Z.ga;have L2:=looks_findIn (M:=model prog w) X Z.gt;have f3:=F.excAttr_ValueError.ga.bind (.ref x);unfold getAttr? getAttrBy?;refine wpAny_bind (wpAny_mkText (wpAny_bind (Uw ?_)));unfold getAttrBy;refine wpAny_holding (wpAny_bind (L0.at (wpAny_bind (L1.at ?_))));show wpAny (model prog w) A (getAttrByItsOwn (.ref x) _ (.ref C) (.builtin "BaseException.__getattribute__") false false) _ _ _;unfold getAttrByItsOwn;refine wpAny_bind ((show Looks (model prog w) hh (hookBefore (.ref C)) none from L2).at ?_)
 refine wpAny_bind (Uw (wpAny_holding ?_));show wpAny (model prog w) A (boundAndCalled (.builtin "BaseException.__getattribute__") (.ref x) _) _ _ _;unfold boundAndCalled;rw [f3];refine wpAny_bind (um (wpAny_call (codeAny_call_builtin F.excAttr_ValueError.ga.plain F.entry_bexc_ga (exc_check U O Z (F.args_bexc_ga _ _) (exc_entry U O Z ?_)))));show wpAny (model prog w) A (handedOut (.ref C)) _ _ _;rw [handedOut_of (show handedIn (.ref C)=true from rfl)]
 exact um (um h)
theorem exc_kit (Z:Jm K C):KitX K (.ref x) (.ref C) (ExcAt x C) where
 ty:=λ_ _ _ I=>xD I
 it:=λM h X _=>by
  obtain⟨cd,O,_⟩:=Option.bind_eq_some_iff.mp Z.ob;unfold clsIn at O;split at O
  ·rename_i U
   intro A' Q' E' s' k q;unfold isType loadHead;exact wpAny_bind (wpAny_loadPart (k _ _ (X _ _ U))
    (um q))
  ·cases O
 ne:=λh tp dd its n sl X aa=>by
  obtain⟨cd,O,_⟩:=Option.bind_eq_some_iff.mp Z.ob;refine Bool.eq_false_iff.mpr λq=> ?_;have e:C=tp:=Value.ref.inj (beq_iff_eq.mp q);subst e;unfold clsIn at O;split at O
  ·rename_i U
   have z:=(X _ _ U).symm.trans aa;cases z
  ·cases O
 ca:=λX I q=>exc_class X I Z q
end
end PySem.AwV
namespace L2
open PySem PySem.Spec PyProof.Rows
theorem boot_VE:bootBuiltins "ValueError"=some (.type "ValueError"):=by decide+kernel
inductive TyX (K:PySem.W.Frag) (H:Hp):V->Value->Prop where
 |ty {x:V}{t:Value} (h:TyOf K H x t):TyX K H x t
 |exc {a C:Addr} (h:H a=some (ExcO a C)) (Z:AwV.Jm K C):TyX K H (.ref a) (.ref C)
section
variable {X:Cx}{oq:oj (o3×Obj)}{σ:St}{H:Hp}{s:o7}
inductive ClsV:V->Value->Prop where
 |ty (T:String):ClsV (.ty T) (.type T)
 |own (C:Addr):ClsV (.ref C) (.ref C)
theorem isinst_x {x:V}{u t c:o6}{b:Bool}{A:oh}{E:o6->o7->Prop}{Q:o6->o7->Prop}(I:Inv X oq σ H s)(O:RelV x u)(ty:TyX X.K H x t)(e:PySem.W.kitOne X.K t c=some b)(h:∀tk,Q (.bool b) {s with toks:=tk}):
  wpAny (model X.prog X.w) A (call (.builtin "isinstance") [u,c]) Q E s:=by
 cases ty with
 |ty z=>exact isinst_ok I O z e h
 | @exc a C ea Z=>
  cases(show u=Value.ref a from O)
  obtain⟨p,_,_⟩:=(show QJ X.prog X.w H s.heap a (ExcO a C) from I.hok a _ ea)
  exact vb (AwV.exc_kit Z) I.kIn p e (λz=>nomatch z) h
theorem XI {K:o0}(U:X.K=K):y6 X (.builtin "isinstance") (λxs H Q=>∃x y c t b,xs= [x,y]/\ClsV y c/\TyX K H x t/\PySem.W.kitOne K t c=some b/\Q (.bl b) H):=by
 intro oq s σ H xs us Q I r h;obtain⟨x,y,c,t,b,rfl,hc,ty,e,q⟩:=h;obtain⟨u,u',rfl,ru,O⟩:=vals2 r;subst U;have e':u'=c:=by cases hc<;>exact O
 subst e';exact uN (n:=1) I.tk (isinst_x I ru ty e λtk htk=>⟨.bl b,H,I.tok tk,1,q⟩)
theorem ZO:∀{cs:oj o3}{its:oj o6},Vals (cs.map V.ref) its->its=cs.map Value.ref
 | [],_,h=>by cases h;rfl
 |c::cs,_,h=>by
  cases h with
  |cons O U=>
   rw [ZO U,show _=Value.ref c from O]
   rfl
theorem call_isinstT {K:o0}(hK:X.K=K):y6 X (.builtin "isinstance") (λxs H Q=>∃(a C p:o3) (cs:oj o3) (b:Bool),xs= [.ref a,.ref p]/\H a=some (ExcO a C)/\H p=some (.tup (cs.map V.ref))/\AwV.Jm K C/\PySem.W.kitAny K (.ref C) (cs.map Value.ref)=some b/\Q (.bl b) H):=by
 intro oq s σ H xs us Q I r h;obtain⟨a,C,p,cs,b,rfl,ea,hp,Z,e,q⟩:=h;obtain⟨u,u',rfl,ru,O⟩:=vals2 r;subst hK;cases ru;cases O;obtain⟨_,its,rv,o,ho,hc,n,hd⟩:=(show QJ X.prog X.w H s.heap p (.tup (cs.map V.ref)) from I.hok p _ hp)
 cases ZO rv;obtain⟨ac,U,aa,osl⟩:=o;simp only at hc hd;subst hc hd;obtain⟨pe,_,_⟩:=(show QJ X.prog X.w H s.heap a (ExcO a C) from I.hok a _ ea)
 exact uN (n:=1) I.tk (PySem.W.kia_tup (AwV.exc_kit Z) I.kIn pe ho e (λz=>nomatch z) λtk htk=>⟨.bl b,H,I.tok tk,1,q⟩)
end
section
variable {X:Cx}
theorem X9:∀{ls:oj Str}{its:oj o6},Vals (ls.map V.str) its->StrsAre its ls
 | [],_,h=>by cases h;exact .nil
 |z::ls,_,h=>by
  cases h with
  |cons O U=>
   obtain⟨t,e⟩:=O;rw [e];exact .cons z t (X9 U)
theorem X3:∀{ls:oj Str}{its:oj o6},StrsAre its ls->Vals (ls.map V.str) its
 |_,_,.nil=> .nil
 |_,_,.cons x t h=> .cons ⟨t,1⟩ (X3 h)
theorem Wo:∀{xs:oj V}{us:oj o6},xs.length=us.length->(∀(j:Nat) (x:V) (v:o6),xs[j]? =some x->us[j]? =some v->RelV x v)->Vals xs us
 | [],[],_,_=> .nil
 |x::xs,u::us,hl,h=> .cons (h 0 x u rfl rfl) (Wo (by simpa using hl) λj y v h1 h2=>h (j+1) y v (by simpa using h1) (by simpa using h2))
 | [],_::_,hl,_=>by simp at hl
 |_::_,[],hl,_=>by simp at hl
theorem call_sortedD (hc:X.calm=true):y6 X (.builtin "sorted") (λxs H Q=>∃(d:o3) (kvs:oj (Key×V)) (ls:oj Str),xs= [.ref d]/\H d=some (.dK kvs)/\kvs.map (·.1)=ls.map Sum.inr/\ls.length<64/\∀(ms:oj Str) (q:o3),ms.Perm ls->sortedS ms=true->H q=none->Q (.ref q) (upd H q (.lst (ms.map V.str)))):=by
 intro oq s σ H xs us Q I r h;obtain⟨d,kvs,ls,rfl,hd,hk,am,q⟩:=h;obtain⟨u,rfl,ru⟩:=JZ r;cases ru;obtain⟨hz,lo,vs,ae,dd⟩:=dk_of I.hok hd;obtain⟨o,es,ep,ho⟩:=id dd;have af:s.heap.DictAt (Qd X.prog X.w) d vs ep:=⟨o,es,ho⟩;have aa:vs.length=ls.length:=by
  have h1:=congrArg List.length hk;rw [u9,u9] at h1;rw [<-ae.length,h1]
 refine uN (n:=1) I.tk ?_;refine PySem.Calls.call_function_entry kind_sorted plain_sorted entry_sorted (args_sorted1 _) ?_;unfold Builtin.«sorted»;refine wpAny_bind (m:=checkCount "sorted" 1 1 _) (um ?_);refine wpAny_bind (PySem.W.kdu_collect (A:=X.A.in1) (PySem.W.kdl_dict lo) (I.ok.hd hc) af (by rw [aa,uA];omega) λh' tk U ag O=> ?_)
 have hS:StrsAre U.toList ls:=by
  refine X9 (Wo (by rw [u9,uX];exact aa.symm.trans O.1.symm) λj x v hx hv=> ?_)
  rw [uF] at hx;cases ac:ls[j]? with
  |none=>rw [ac] at hx;cases hx
  |some z=>
   rw [ac] at hx;cases hx;obtain⟨k,y,e1,e2⟩:=O.2 j v (by rw [<-Array.getElem?_toList];exact hv)
   have e3:(kvs.map (·.1))[j]? =some k:=by
    rw [ae.keys,uF,e1]
    rfl
   rw [hk,uF,ac] at e3;cases e3;rcases Ql (show keyIs (Sum.inr z) v=true from e2) with⟨i,t,e4,e5⟩|⟨z',t,e4,e5⟩
   ·cases e4
   ·cases e4;exact⟨t,e5⟩
 have ah:U.toList.length=ls.length:=by rw [uX,O.1,aa]
 refine wpAny_bind (wpAny_newList ?_ (by rw [ah,uA];omega))
 have ad:(h'.push (seqObj "list" U.toList.toArray 0)).get? h'.objs.size=some (seqObj "list" U.toList.toArray 0):=uz _ rfl;refine wpAny_bind (wpAny_holding (vA slot_list_sort ⟨_,ad,1⟩ entry_list_sort (list_sort_treeK strKind_oneLt ad hS.keysOf (λv₁ v₂ rest e=>keyKind_strs (by rw [<-e];exact hS)) (by omega) λak a1 a2=>⟨0,?_⟩) (args_list_sort _)))
 refine um ⟨0,?_⟩;obtain⟨ms,b1,b2,b3⟩:=sorted_out_str hS a1 a2;obtain⟨e,he⟩:=sortedHeap_at (out:=(arrOf ak).map (·.2)) ad;have al:ms.length=ls.length:=b2.length_eq;intro htk;have I':Inv X oq σ H {s with heap:=h',toks:=tk}:=I.kept ag
 refine⟨.ref h'.objs.size,_,I'.laid (t':=tk) (o:= .lst (ms.map V.str)) (λb u w=> ?_) (ug _) ⟨?_,_,e,X3 b1,he⟩,1,q ms _ b2 b3 (I'.hok.fresh (ug _))⟩
 ·have hb:=uw w;rw [sortedHeap_old (uI hb) (by rw [size_push'];exact Nat.lt_succ_of_lt hb)]
  exact ua _ w
 ·rw [u9,al,uA];omega
def Itd (d:o3)(o:Obj):It:=
 ⟨λi H=>∃kvs,H d=some (.frz o (.dK kvs))/\i<kvs.length,λi H x H'=>H'=H/\∀kvs,H d=some (.frz o (.dK kvs))->(kvs.map λp=>kV p.1)[i]? =some x,λi H=>∃kvs,H d=some (.frz o (.dK kvs))/\kvs.length<=i⟩
theorem pairs_len {P:o9}{w:og}{es:oj DictEntry}{kvs:oj (Key×o6)}(h:Pairs (Qd P w) es kvs):es.length=kvs.length:=h.length
theorem Wb {P:o9}{w:og}{H:Hp}{h:o8}{d:o3}{o:Obj}{kvs:oj (Key×V)}{es:Array DictEntry}{ep:Nat}(ok:HOk P w H h)(e:H d=some (.frz o (.dK kvs)))(hd:o.data= .dict es ep):
  (d==sysModules)=false/\∃vs,KV kvs vs/\h.DictAt (Qd P w) d vs ep/\vs.length=es.size/\kvs.length<=sizeLine:=by
 obtain⟨U,hz,lo,vs,r,o',aa,ac,O,c1,c2,c3,c4,c5⟩:=(show QJ P w H h d (.frz o (.dK kvs)) from ok d _ e)
 rw [U] at O;cases O;rw [hd] at c2;cases c2;exact⟨lo,vs,r,⟨o,es,U,c1,hd,c3,c4,c5⟩,by rw [<-uX];exact(pairs_len c4).symm,hz⟩
theorem kV_rel {k:Key}{v:o6}(h:keyIs k v=true):RelV (kV k) v:=by
 rcases Ql h with⟨i,t,rfl,rfl⟩|⟨z,t,rfl,rfl⟩
 ·exact⟨t,1⟩
 ·exact⟨t,1⟩
theorem turn_dict {P:o9}{w:og}{K:o0}{tg:Expr}(d it:o3){o:Obj}{es:Array DictEntry}{ep:Nat}(hd:o.data= .dict es ep):Turn P w K tg (Itd d o) [it] it (λi h=>h.IsKeyIter it d i es.size ep) where
 mem:=by simp
 obj:=λi h st b O=>by
  have e:b=it:=by simpa using O
  subst e;obtain⟨o,e,c,d⟩:=st;exact⟨o,e,λv z=>by rw [d] at z;cases z⟩
 keep:=λi h h' st k=>by
  obtain⟨o,e,c,dd⟩:=st;exact⟨o,k it (by simp) o e,c,dd⟩
 item:=by
  intro X hP hw hK hc i oq s σ H E I hf st hg;subst hP hw hK;obtain⟨kvs,hq,hx⟩:=hg;obtain⟨lo,vs,r,U,hl,_⟩:=Wb I.hok hq hd;have ae:=r.length;obtain⟨f0,f1,f2,f3,f4,f5⟩:=hf it (by simp)
  obtain⟨⟨k,v⟩,aa⟩:∃p,vs[i]? =some p:=⟨_,uf (by omega)⟩
  refine wpAny_pyNext_dict_item (by rw [hl];exact st) U aa λaf h' hk ac sb=> ?_
  have I1:Inv X oq σ H {s with heap:=h'}:=I.turned (t':=s.toks) (λb o O e=>(sb.2 b O).trans e) f0 f1 f3 f4 f5
  obtain⟨oi,e,c,di⟩:=id ac;refine⟨af,1,go_of (s:={s with heap:=h'}) e c di (by decide) ⟨kV k,H,I1,kV_rel hk,⟨1,λag ad=> ?_⟩,by rw [<-hl];exact ac,λb O=>(hf b O).1⟩⟩
  rw [hq] at ad;cases ad;have e3:(kvs.map (·.1))[i]? =some k:=by
   rw [r.keys,uF,aa]
   rfl
  rw [uF] at e3⊢;cases h4:kvs[i]? with
  |none=>rw [h4] at e3;cases e3
  |some p=>
   rw [h4] at e3;cases e3
   rfl
 done:=by
  intro X hP hw hK hc i oq s σ H E I hf st hg;subst hP hw hK;obtain⟨kvs,hq,hx⟩:=hg;obtain⟨lo,vs,r,U,hl,_⟩:=Wb I.hok hq hd;have ae:=r.length;obtain⟨f0,f1,f2,f3,f4,f5⟩:=hf it (by simp)
  exact wpAny_pyNext_dict_end (I.ok.hd hc) (by rw [hl];exact st) U (List.getElem?_eq_none (by omega)) λh' eb=>⟨1,I.turned (t':=s.toks) (λb o O e=>eb b o O e) f0 f1 f3 f4 f5⟩
 self:=λ_ _ _ _ _ st h=>wpAny_pyIter_keyiter st h
def iDicF (tl:TE):TI:=λσ H R=>tl σ H λx H1=>∃d o kvs,x= .ref d/\H1 d=some (.frz o (.dK kvs))/\R (Itd d o) H1
theorem pi_dicF {tg l:Expr}{tl:TE}(hl:PE X l tl):PI X tg l (iDicF tl):=by
 intro oq s σ H R I h;refine thn (hl oq s σ H _ I h) λv s1 ⟨x,H1,O,r1,q1⟩=> ?_;obtain⟨d,o,kvs,rfl,hq,q⟩:=q1;cases r1;obtain⟨ho,_,lo,vs,r,o',es,ep,U,c1,c2,_⟩:=(show QJ X.prog X.w H1 s1.heap d (.frz o (.dK kvs)) from O.hok d _ hq)
 rw [ho] at U;cases U;obtain⟨lo,vs,r,aa,hl,_⟩:=Wb O.hok hq c2;refine wpAny_pyIter_dict lo aa ?_;refine⟨s1.heap.objs.size,[s1.heap.objs.size],_,_,H1,1,O.kept (t':=s1.toks) λb o e=>ua _ e,turn_dict d _ c2,⟨_,uz _ rfl,1,by rw [hl];rfl⟩,λb hb=> ?_,q⟩
 have e:b=s1.heap.objs.size:=by simpa using hb
 subst e;exact O.fpOk (ug _) (O.hok.fresh (ug _))
end
end L2
namespace PySem.AwK
open PySem Builtin Builtin.ObjectAttr
theorem lk_keys:typeLookup (.type "list") "keys"=pure none:=by rw [typeLookup_type,builtinLookup_eq_fast];kernel_rfl
section
variable {prog:o9}{w:og}{A:oh}{E:o6->o7->Prop}{s:o7}
theorem WH:isSubtype (.type "AttributeError") (.type "AttributeError")=pure true:=by rw [isSubtype_type];kernel_rfl
theorem raise_attr {α:Type}{o:o6}{name O:Str}{Q:α->o7->Prop}(hh:A.handled=none)(hm:O.length<=sizeLine)
  (hq:∀h' ac e,(∀b ob,s.heap.get? b=some ob->h'.get? b=some ob)->(∃oe,h'.get? e=some oe/\oe.cls= .type "AttributeError")->E (.ref e) {s with heap:=h',toks:=ac}):
  wpAny (model prog w) A (raiseAttrError o name O:Sem α) Q E s:=by
 unfold raiseAttrError;refine wpAny_bind (wpAny_mkStr (wpAny_bind ?_) hm);unfold newExc newTuple;refine wpAny_bind (vd ?_ (by show(1:Nat)<=sizeLine;rw [uA];decide))
 refine wpAny_bind (m:=firstArgMember _ _) (wpAny_of_eq (a:=Value.none) (by kernel_rfl) ?_)
 obtain⟨h1,aa⟩:∃h1,h1=s.heap.push {cls:= .type "tuple",data:= .seq #[Value.str O s.toks]}:=⟨0⟩;have k1:∀b ob,s.heap.get? b=some ob->h1.get? b=some ob:=λb ob e=>by rw [aa];exact ua _ e
 show wpAny (model prog w) A (newObj (.type "AttributeError") (.fields #[.ref s.heap.objs.size,.none,.none,.none,.bool false,.none,unsetMember,unsetMember])) _ E {s with heap:=s.heap.push {cls:= .type "tuple",data:= .seq #[Value.str O s.toks]},toks:=s.toks+1}
 rw [<-aa];refine vd ?_ (by unfold sizeOk;first|trivial|(rw [uA];simp)|decide)
 obtain⟨h2,U⟩:∃h2,h2=h1.push {cls:= .type "AttributeError",data:= .fields #[.ref s.heap.objs.size,.none,.none,.none,.bool false,.none,unsetMember,unsetMember]}:=⟨0⟩;have k2:∀b ob,h1.get? b=some ob->h2.get? b=some ob:=λb ob e=>by rw [U];exact ua _ e
 have e2:h2.get? h1.objs.size=some {cls:= .type "AttributeError",data:= .fields #[.ref s.heap.objs.size,.none,.none,.none,.bool false,.none,unsetMember,unsetMember]}:=by rw [U];exact uz _ rfl
 show wpAny (model prog w) A (do let x<-mkText name;noteAttr (.ref h1.objs.size) o x;raiseNew (.ref h1.objs.size)) Q E {s with heap:=h1.push {cls:= .type "AttributeError",data:= .fields #[.ref s.heap.objs.size,.none,.none,.none,.bool false,.none,unsetMember,unsetMember]},toks:=s.toks+1}
 rw [<-U];have ne:∀b ob,h1.get? b=some ob->b≠h1.objs.size:=λb ob e=>uI (uw e);generalize h1.objs.size=e at e2 ne⊢;refine wpAny_bind (wpAny_mkText (wpAny_bind ?_));have hT:∀g d t os,(⟨h2,g,d,t,os⟩:o7).TypeIs (.ref e) "AttributeError":=λ_ _ _ _=>⟨_,e2,1⟩;unfold noteAttr lacksNameAndObj;refine wpAny_bind (wpAny_bind (UH (hT _ _ _ _) WH ?_));simp only [Bool.not_true,vJ,UJ];refine wpAny_bind (wpAny_load e2 ?_);dsimp only;rw [if_neg (by simp [unsetMember,rawInt]),if_neg (by simp [unsetMember,doubtfulMember,rawInt])]
 refine um ?_;rw [if_pos rfl];refine wpAny_bind (UD (wpAny_bind (wpAny_typeOf (hT _ _ _ _) ?_)));show wpAny (model prog w) A (layMembers e 6 #[Value.str name (s.toks+1),o]) _ E _;unfold layMembers;refine wpAny_bind (wpAny_load e2 ?_);dsimp only;refine wpAny_update e2 ?_;have e3:=Heap.get?_update_self (Obj.mapFields λvs=>vs.extract 0 6++ #[Value.str name (s.toks+1),o]) e2 rfl;have k3:∀b ob,b≠e->h2.get? b=some ob->(h2.update e (Obj.mapFields λvs=>vs.extract 0 6++ #[Value.str name (s.toks+1),o])).get? b=some ob:=λb ob hb q=>(Heap.get?_update_other _ _ (U0 hb)).trans q;exact wpAny_raiseNew_none hh (hq _ _ e (λb ob q=>k3 b ob (ne b ob (k1 b ob q)) (k2 b ob (k1 b ob q))) ⟨_,e3,1⟩)
end
section
variable {prog:o9}{w:og}{A:oh}{E:o6->o7->Prop}{h:o8}{g:Array GenState}{d:Drawn}{t:Nat}{os:OsState}{a:o3}{its:Array o6}{n:Nat}{sl:Array (om o6)}
theorem nk_entry {tk:Tok}{Q:Fin->o7->Prop}(hh:A.handled=none)(hx:h.get? a=some {cls:= .type "list",dict:=none,data:= .seq its n,slots:=sl})
  (hq:∀h' O e,(∀b ob,h.get? b=some ob->h'.get? b=some ob)->(∃U,h'.get? e=some U/\U.cls= .type "AttributeError")->E (.ref e) ⟨h',g,d,O,os⟩):
  wpAny (model prog w) A (Builtin.«object.__getattribute__» ⟨[.ref a,.str "keys" tk],[]⟩) Q E ⟨h,g,d,t,os⟩:=by
 have hT:(⟨h,g,d,t,os⟩:o7).TypeIs (.ref a) "list":=⟨_,hx,1⟩;have f4:=lk_keys
 repeat (any_goals (first|assumption|wp_step))
 exact raise_attr hh (by rw [uA];decide+kernel) hq
theorem nk_call {tk:Tok}{R:Result->o7->Prop}(hh:A.handled=none)(U:h.get? a=some {cls:= .type "list",dict:=none,data:= .seq its n,slots:=sl})
  (hq:∀h' O e,(∀b ob,h.get? b=some ob->h'.get? b=some ob)->(∃oe,h'.get? e=some oe/\oe.cls= .type "AttributeError")->R (.error (.ref e)) ⟨h',g,d,O,os⟩):
  codeAny (model prog w) A (.call (.builtin "list.__getattribute__") ⟨[.ref a,.str "keys" tk],[]⟩) R ⟨h,g,d,t,os⟩:=
 codeAny_call_builtin F.slot_list_getattribute.plain F.entry_list_ga (F.slot_list_getattribute.check _ _ _ _ _ _ _ _ (show(⟨h,g,d,t,os⟩:o7).TypeIs (.ref a) "list" from⟨_,U,1⟩) (F.args_list_getattribute_2 _ _) (nk_entry hh U hq))
theorem no_keys {Q:om o6->o7->Prop}(hh:A.handled=none)(U:h.get? a=some {cls:= .type "list",dict:=none,data:= .seq its n,slots:=sl})
  (hq:∀h' O,(∀b ob,h.get? b=some ob->h'.get? b=some ob)->Q none ⟨h',g,d,O,os⟩):wpAny (model prog w) A (getAttr? (.ref a) "keys") Q E ⟨h,g,d,t,os⟩:=by
 have hT:∀t,(⟨h,g,d,t,os⟩:o7).TypeIs (.ref a) "list":=λt=>⟨_,U,1⟩;unfold getAttr? getAttrBy?;refine wpAny_bind (wpAny_mkText (wpAny_bind (Uw ?_)));unfold getAttrBy;refine wpAny_holding (wpAny_bind (wpAny_typeOf (hT _) ?_));rw [F.slot_list_getattribute.lookup];refine wpAny_bind (um ?_);show wpAny (model prog w) A (getAttrByItsOwn (.ref a) _ (.type "list") (.builtin "list.__getattribute__") false false) _ _ _;unfold getAttrByItsOwn;refine wpAny_bind (m:=hookBefore _) (um ?_);refine wpAny_bind (Uw (wpAny_holding ?_));show wpAny (model prog w) A (boundAndCalled (.builtin "list.__getattribute__") (.ref a) _) _ _ _;unfold boundAndCalled;rw [F.slot_list_getattribute.bind];refine wpAny_bind (um (wpAny_call (nk_call hh U λh' O e k ⟨oe,e1,e2⟩=> ?_)));have hE:∀t,(⟨h',g,d,t,os⟩:o7).TypeIs (.ref e) "AttributeError":=λt=>⟨_,e1,e2⟩;show wpAny (model prog w) A (getattributeRaised (.ref a) _ (.type "list") (.ref e) none false false) _ _ ⟨h',g,d,O,os⟩;unfold getattributeRaised;refine wpAny_bind (UH (hE _) WH ?_);rw [if_pos rfl];have lg:hookBehind (.type "list") none=pure none:=by
  show typeLookup (.type "list") "__getattr__"=pure none;rw [typeLookup_type,builtinLookup_eq_fast]
  kernel_rfl
 rw [lg];refine wpAny_bind (um ?_);show wpAny (model prog w) A (attributeErrorLeaves (.ref a) _ (.ref e) false false) _ _ _;unfold attributeErrorLeaves;refine wpAny_throw ?_;refine wpAny_bind (UH (hE _) WH ?_);rw [if_pos rfl];exact um (hq h' O k)
end
theorem wF:entryFor table "dict.update.loop"=some Builtin.«dict.update.loop»:=entryFor_of_fast (by kernel_rfl)
theorem j3:plainId "dict.update.loop"=true:=by decide+kernel
section
variable {prog:o9}{w:og}{A:oh}{E:o6->o7->Prop}{K:Type}[DecidableEq K]{knd:KeyKind prog w K}
def addAll (cur:oj (K×o6)):oj (K×o6)->oj (K×o6)
 | []=>cur
 |p::r=>addAll (stored cur p.1 p.2) r
structure PairAt (h:o8)(d it:o3)(v:o6)(p:K×o6):Prop where
 at_:∃(t:o3) (o:Obj) (k:o6) (n:Nat),v= .ref t/\t≠d/\t≠it/\h.get? t=some o/\o.cls= .type "tuple"/\o.data= .seq #[k,p.2] n/\knd.is p.1 k=true
theorem pairs_loop (hh:A.handled=none){d it l:o3}{items:Array o6}{ps:oj (K×o6)}{R:Result->o7->Prop}(au:d≠l)(aw:it≠l)(ac:d≠it)(hn:items.size=ps.length)(hz:2*ps.length<=sizeLine)(res:o6):
  ∀(m i:Nat) (s:o7) (O:oj (K×o6)),i+m=ps.length->s.heap.IsListIter it l i->s.heap.IsList l items->s.heap.DictOf knd d O->O.length<=i->
  (∀(j:Nat) (v:o6) (p:K×o6),items[j]? =some v->ps[j]? =some p->PairAt (knd:=knd) s.heap d it v p)->
  (∀h' ad,h'.DictOf knd d (addAll O (ps.drop i))->(∀b o,b≠d->b≠it->s.heap.get? b=some o->h'.get? b=some o)->R (.ok (.ret res)) {s with heap:=h',toks:=ad})->
  codeAny (model prog w) A (.builtin "dict.update.loop" ⟨[.ref d,.ref it,rawInt i,res],[]⟩) R s:=by
 intro m
 induction m with
 |zero=>
  intro i s O hm ae hl hd hc hp hR;refine codeAny_builtin wF ?_;rw [Around.under_plainId j3 _];show wpAny _ A.in1 (pyNext (.ref it)>>=_) _ _ s;refine wpAny_bind (wpAny_pyNext_list_end (A:=A.in1) hh ae hl (by rw [Array.getElem?_eq_none (by omega)]) λh' eb=> ?_)
  have af:h'.DictOf knd d O:=by
   obtain⟨o,es,ep,ho,r⟩:=hd;exact⟨o,es,ep,eb d o ac ho,r⟩
  have:=hR h' s.toks (by rw [List.drop_eq_nil_of_le (by omega)];exact af) λb o aa U e=>eb b o U e
  show wpAny (model prog w) A.in1 (Dict.addKeywords d []>>=λ_=>ret res) _ _ _;refine wpAny_bind (m:=Dict.addKeywords d []) (um ?_);exact um this
 |succ m ih=>
  intro i s O hm ae hl hd hc hp hR;refine codeAny_builtin wF ?_;rw [Around.under_plainId j3 _];have hi:i<items.size:=by omega
  have ah:i<ps.length:=by omega
  have hx:items[i]? =some items[i]:=Array.getElem?_eq_getElem hi;have ax:ps[i]? =some ps[i]:=uf ah;obtain⟨t,o,k,n,ev,aE,ay,ho,aA,aB,hk⟩:=(hp i _ _ hx ax).at_;rw [ev] at hx;show wpAny _ A.in1 (pyNext (.ref it)>>=_) _ _ s;refine wpAny_bind (wpAny_pyNext_list_item (A:=A.in1) ae hl hx λh1 ak ag=> ?_);have al:h1.get? t=some o:=(ag.2 t ay).trans ho;have hT:(({s with heap:=h1}:o7)).TypeIs (.ref t) "tuple":=⟨_,al,aA⟩
  have am:h1.DictOf knd d O:=hd.sameBut ag ac;dsimp only;refine wpAny_bind (wpAny_holding (wpAny_bind (wpAny_tryCatch ?_)));unfold Dict.pairItems;refine wpAny_bind (wpAny_typeOf hT ?_);rw [if_pos (by decide)]
  refine wpAny_bind ?_;unfold seqItems?;refine wpAny_bind (wpAny_load al ?_);rw [aB];refine um (um ?_);show wpAny (model prog w) A.in1 (holding [k,ps[i].2] (dictSet d k ps[i].2)) _ _ _;refine wpAny_holding (wpAny_dictSet_pairs hk am (λh2 aC ao=> ?_) (by omega))
  have ap:h2.IsListIter it l (i+1):=by
   obtain⟨oi,e,c⟩:=ak;exact⟨oi,(ao.2 it (U0 ac)).trans e,c⟩
  have keep:∀b ob,b≠d->b≠it->s.heap.get? b=some ob->h2.get? b=some ob:=λb ob aa U e=>(ao.2 b aa).trans ((ag.2 b U).trans e);have aD:h2.IsList l items:=by
   obtain⟨ol,e,c⟩:=hl;exact⟨ol,keep l ol (U0 au) (U0 aw) e,c⟩
  refine um ⟨plainId_quiet j3 _,?_⟩;have aq:(stored O ps[i].1 ps[i].2).length<=i+1:=by
   unfold stored;split
   ·rw [u9];omega
   ·rw [uD];show O.length+1<=i+1;omega
  refine ih (i+1) _ _ (by omega) ap aD aC aq (λj v p h1 h2=> ?_) λh' ad af kp=> ?_
  ·obtain⟨t',o',k',n',e1,e2,e3,e4,e5⟩:=(hp j v p h1 h2).at_;exact⟨⟨t',o',k',n',e1,e2,e3,keep t' o' e2 e3 e4,e5⟩⟩
  ·refine hR h' ad ?_ λb ob aa U e=>kp b ob aa U (keep b ob aa U e);rw [v7 ah];exact af
theorem dict_pairs (hh:A.handled=none){s:o7}{l:o3}{items:Array o6}{n:Nat}{sl:Array (om o6)}{ps:oj (K×o6)}{Q:o6->o7->Prop}(hl:s.heap.get? l=some {cls:= .type "list",dict:=none,data:= .seq items n,slots:=sl})(hn:items.size=ps.length)(hz:2*ps.length<=sizeLine)
  (hp:∀(j:Nat) (v:o6) (p:K×o6),items[j]? =some v->ps[j]? =some p->∃(t:o3) (o:Obj) (k:o6) (n:Nat),v= .ref t/\s.heap.get? t=some o/\o.cls= .type "tuple"/\o.data= .seq #[k,p.2] n/\knd.is p.1 k=true)
  (hQ:∀h' ac,h'.DictOf knd s.heap.objs.size (addAll [] ps)->(∀b o,s.heap.get? b=some o->h'.get? b=some o)->Q (.ref s.heap.objs.size) {s with heap:=h',toks:=ac}):
  wpAny (model prog w) A (call (.type "dict") [.ref l]) Q E s:=by
 refine callType_codes (Q₁:=λobj s₁=>obj= .ref s.heap.objs.size/\s₁={s with heap:=s.heap.push {cls:= .type "dict",data:= .dict #[]}}) F.kt_called_dict (F.kt_typeCall_dict_1 _) F.entry_dict_init (kt_code_dict_new _ ⟨1,1⟩) ?_
 rintro obj s₁ ⟨rfl,rfl⟩;have U:(s.heap.push {cls:= .type "dict",data:= .dict #[]}).DictOf knd s.heap.objs.size []:=Heap.DictOf.new s.heap;refine⟨U.typeIs,F.args_dict_init_2 _ _,?_⟩;unfold Builtin.«dict.__init__»;refine wpAny_bind ?_;unfold Builtin.Dict.selfAndRest;refine wpAny_bind (wpAny_notOrdered_dict U.typeIs ?_);refine(show wpAny _ _ (pure (s.heap.objs.size,[Value.ref l])) _ _ _ from ?_)
 refine um ?_;refine(show wpAny _ _ (Builtin.Dict.updateFrom "dict.__init__" s.heap.objs.size (.ref l) [] .none) _ _ _ from ?_)
 unfold Builtin.Dict.updateFrom;have aa:(s.heap.push {cls:= .type "dict",data:= .dict #[]}).get? l=some {cls:= .type "list",dict:=none,data:= .seq items n,slots:=sl}:=ua _ hl;refine wpAny_bind (wpAny_typeOf (T:="list") ⟨_,aa,1⟩ ?_);rw [if_pos (by decide)]
 refine wpAny_bind (no_keys (A:=A.in1.in1) hh aa λh2 am k2=> ?_);rw [if_pos (show(none:om o6).isNone=true from rfl)]
 have ad:l<s.heap.objs.size:=uw hl;have af:h2.IsList l items:=⟨_,k2 _ _ aa,1,n,1⟩;refine wpAny_bind (UD (wpAny_bind (UC af ?_)));have ae:h2.DictOf knd s.heap.objs.size []:=by
  obtain⟨o,es,ep,ho,r⟩:=U;exact⟨o,es,ep,k2 _ _ ho,r⟩
 have O:s.heap.objs.size<h2.objs.size:=by
  obtain⟨o,es,ep,ho,r⟩:=ae;exact uw ho
 have k1:∀b o,s.heap.get? b=some o->h2.get? b=some o:=λb o e=>k2 b o (ua _ e);have k3:∀b o,h2.get? b=some o->(h2.push {cls:= .type "list_iterator",data:= .fields #[.ref l,.int 0 0]}).get? b=some o:=λb o e=>ua _ e;have ag:(h2.push {cls:= .type "list_iterator",data:= .fields #[.ref l,.int 0 0]}).IsList l items:=⟨_,k3 _ _ (k2 _ _ aa),1,n,1⟩;have ah:(h2.push {cls:= .type "list_iterator",data:= .fields #[.ref l,.int 0 0]}).DictOf knd s.heap.objs.size []:=ae.push _;refine um ⟨plainId_quiet j3 _,pairs_loop (A:=A.in1) hh (d:=s.heap.objs.size) (it:=h2.objs.size) (l:=l) (items:=items) (ps:=ps) (Ud ad) (Ud (Nat.lt_trans ad O)) (uI O) hn hz .none ps.length 0 _ [] (by omega) ⟨_,uz _ rfl,1,1⟩ ag ah (ug _) (λj v p h1 ak=> ?_) λh' ac al kp=> ?_⟩
 ·obtain⟨t,o,k,n',e1,e2,e3,e4,e5⟩:=hp j v p h1 ak;have ht:=uw e2;exact⟨⟨t,o,k,n',e1,uI ht,uI (Nat.lt_trans ht O),k3 _ _ (k1 _ _ e2),e3,e4,e5⟩⟩
 ·refine⟨1,hQ h' ac al λb o e=> ?_⟩;have hb:=uw e;exact kp b o (uI hb) (uI (Nat.lt_trans hb O)) (k3 _ _ (k1 _ _ e))
end
end PySem.AwK
namespace L2
open PySem PySem.Spec PyProof.Rows
section
variable {X:Cx}
def inrK (ps:oj (Str×V)):oj (Key×V):=ps.map λp=>(Sum.inr p.1,p.2)
theorem Zc (ps:oj (Str×V)):(inrK ps).map (·.1)=(ps.map (·.1)).map Sum.inr:=by
 unfold inrK;rw [uG,uG]
 rfl
theorem stored_new {kvs:oj (Key×o6)}{k:Key}{v:o6}(h:k∉kvs.map (·.1)):stored kvs k v=kvs++ [(k,v)]:=by
 unfold stored;rw [if_neg];intro q;obtain⟨p,O,e⟩:=List.any_eq_true.mp q;exact h (List.mem_map.mpr ⟨p,O,uh e⟩)
theorem wt:∀{ps O:oj (Key×o6)},((O++ps).map (·.1)).Nodup->AwK.addAll O ps=O++ps
 | [],O,_=>(vR O).symm
 |p::r,O,h=>by
  unfold AwK.addAll;have U:p.1∉O.map (·.1):=by
   rw [uu,uq] at h;intro q;exact(List.nodup_append.mp h).2.2 _ q _ ud rfl
  rw [stored_new U,wt (by rw [List.append_assoc];exact h),List.append_assoc]
  rfl
theorem pairs_are {P:o9}{w:og}{H:Hp}{h:o8}(ok:HOk P w H h):∀{ts:oj o3}{ps:oj (Str×V)},ts.length=ps.length->(∀(i:Nat) (t:o3) (p:Str×V),ts[i]? =some t->ps[i]? =some p->H t=some (.tup [.str p.1,p.2]))->
  ∃pv:oj (Key×o6),KV (inrK ps) pv/\∀(j:Nat) (v:o6) (p:Key×o6),(ts.map Value.ref)[j]? =some v->pv[j]? =some p->∃(t:o3) (o:Obj) (k:o6) (n:Nat),v= .ref t/\h.get? t=some o/\o.cls= .type "tuple"/\o.data= .seq #[k,p.2] n/\(Qd P w).is p.1 k=true
 | [],[],_,_=>⟨[],.nil,λj v p e=>by simp at e⟩
 |t::ts,p::ps,hl,hp=>by
  obtain⟨pv,h1,h2⟩:=pairs_are ok (ts:=ts) (ps:=ps) (by simpa using hl) λi t' U O e2=>hp (i+1) t' U (by simpa using O) (by simpa using e2)
  obtain⟨_,its,rv,o,ho,hc,n,hd⟩:=(show QJ P w H h t (.tup [.str p.1,p.2]) from ok t _ (hp 0 t p rfl rfl))
  cases rv with
  |cons r1 rv=>
  cases rv with
  |cons r2 rv=>
  cases rv with
  |nil=>
  obtain⟨tk,rfl⟩:=r1
  rename_i u
  refine⟨(Sum.inr p.1,u)::pv,.cons ⟨1,r2⟩ h1,λj v q O e2=> ?_⟩;cases j with
  |zero=>
   simp only [uq,List.getElem?_cons_zero,Option.some.injEq] at O e2;subst O e2;exact⟨t,o,_,n,1,ho,hc,hd,ZH _ _ _ _⟩
  |succ j=>exact h2 j v q (by simpa using O) (by simpa using e2)
 | [],_::_,hl,_=>by simp at hl
 |_::_,[],hl,_=>by simp at hl
def PairsL (H:Hp)(l:o3)(ps:oj (Str×V)):Prop:=∃ts:oj o3,H l=some (.lst (ts.map V.ref))/\ts.length=ps.length/\∀(i:Nat) (t:o3) (p:Str×V),ts[i]? =some t->ps[i]? =some p->H t=some (.tup [.str p.1,p.2])
theorem dict_of {oq:oj (o3×Obj)}{σ:St}{H:Hp}{s:o7}{l:o3}{ps:oj (Str×V)}{Q:o6->o7->Prop}(hc:X.calm=true)(I:Inv X oq σ H s)(hl:PairsL H l ps)(hn:(ps.map (·.1)).Nodup)(hz:ps.length<=1000)
  (h:∀h' O pv,0<O->(∀b o,s.heap.get? b=some o->h'.get? b=some o)->KV (inrK ps) pv->h'.DictOf (Qd X.prog X.w) s.heap.objs.size pv->Q (.ref s.heap.objs.size) {s with heap:=h',toks:=O}):
  wpAny (model X.prog X.w) X.A (call (.type "dict") [.ref l]) Q X.xe s:=by
 obtain⟨ts,e1,e2,e3⟩:=hl;obtain⟨_,its,n,rv,ho⟩:=(show QJ X.prog X.w H s.heap l (.lst (ts.map V.ref)) from I.hok l _ e1)
 cases ZO rv;obtain⟨pv,r,hp⟩:=pairs_are I.hok e2 e3;have ad:pv.length=ps.length:=by
  rw [<-r.length];unfold inrK;rw [u9]
 have aa:(pv.map (·.1)).Nodup:=by
  rw [<-r.keys,Zc];exact List.Pairwise.map _ (λa b ac e=>ac (Ub e)) hn
 refine uN (n:=1) I.tk ?_;refine AwK.dict_pairs (knd:=Qd X.prog X.w) (I.ok.hd hc) (ps:=pv) ho (by rw [uj,u9];omega) (by rw [uA];omega) (λj v p h1 h2=>hp j v p (by simpa using h1) h2) λh' O U kp=> ?_
 rw [wt (by simpa using aa),List.nil_append] at U
 exact λhtk=>h h' O pv htk kp r U
theorem call_dictP (hc:X.calm=true):y6 X (.type "dict") (λxs H Q=>∃(l:o3) (ps:oj (Str×V)),xs= [.ref l]/\PairsL H l ps/\(ps.map (·.1)).Nodup/\ps.length<=1000/\∀q,H q=none->Q (.ref q) (upd H q (.dK (inrK ps)))):=by
 intro oq s σ H xs us Q I r h;obtain⟨l,ps,rfl,hl,hn,hz,q⟩:=h;obtain⟨u,rfl,ru⟩:=JZ r;cases ru;refine dict_of hc I hl hn hz λh' aa pv htk kp rel dd=> ?_;have O:(s.heap.objs.size==sysModules)=false:=by
  rw [beq_eq_false_iff_ne];exact Ud I.big
 have U:(inrK ps).length<=sizeLine:=by unfold inrK;rw [u9,uA];omega
 exact⟨.ref s.heap.objs.size,_,I.laid kp (ug _) (wW U O rel dd),1,q _ I.fresh⟩
theorem call_dictF (hc:X.calm=true):y6 X (.type "dict") (λxs H Q=>∃(l:o3) (ps:oj (Str×V)),xs= [.ref l]/\PairsL H l ps/\(ps.map (·.1)).Nodup/\ps.length<=1000/\∀q o,H q=none->Q (.ref q) (upd H q (.frz o (.dK (inrK ps))))):=by
 intro oq s σ H xs us Q I r h;obtain⟨l,ps,rfl,hl,hn,hz,q⟩:=h;obtain⟨u,rfl,ru⟩:=JZ r;cases ru;refine dict_of hc I hl hn hz λh' aa pv htk kp rel dd=> ?_;have O:(s.heap.objs.size==sysModules)=false:=by
  rw [beq_eq_false_iff_ne];exact Ud I.big
 have U:(inrK ps).length<=sizeLine:=by unfold inrK;rw [u9,uA];omega
 obtain⟨o,es,ep,ho,rr⟩:=id dd;exact⟨.ref s.heap.objs.size,_,I.laid (o:= .frz o (.dK (inrK ps))) kp (ug _) ⟨ho,wW U O rel dd⟩,1,q _ o I.fresh⟩
end
mutual
def puD:D->Bool
 | .str _=>true
 | .int _=>true
 | .tup xs=>puL xs
 |_=>false
def puL:oj D->Bool
 | []=>true
 |x::r=>puD x&&puL r
end
mutual
def eqD:D->D->Bool
 | .str a,.str b=>a==b
 | .int a,.int b=>a==b
 | .tup xs,.tup ys=>eqL xs ys
 |_,_=>false
def eqL:oj D->oj D->Bool
 | [],[]=>true
 |x::r,y::q=>eqD x y&&eqL r q
 |_,_=>false
end
mutual
theorem eqD_iff:∀{d e:D},puD d=true->(eqD d e=true↔d=e)
 | .str a,e,_=>by cases e<;>simp [eqD]
 | .int a,e,_=>by cases e<;>simp [eqD]
 | .tup xs,.tup ys,h=>by
  have:=eqL_iff (xs:=xs) (ys:=ys) (by simpa [puD] using h)
  simp only [eqD,this,D.tup.injEq]
 | .tup xs,.non,_=>by simp [eqD]
 | .tup xs,.bl _,_=>by simp [eqD]
 | .tup xs,.int _,_=>by simp [eqD]
 | .tup xs,.str _,_=>by simp [eqD]
 | .tup xs,.lst,_=>by simp [eqD]
 | .tup xs,.dct,_=>by simp [eqD]
 | .non,_,h=>by simp [puD] at h
 | .bl _,_,h=>by simp [puD] at h
 | .lst,_,h=>by simp [puD] at h
 | .dct,_,h=>by simp [puD] at h
theorem eqL_iff:∀{xs ys:oj D},puL xs=true->(eqL xs ys=true↔xs=ys)
 | [],[],_=>by simp [eqL]
 | [],_::_,_=>by simp [eqL]
 |_::_,[],_=>by simp [eqL]
 |x::r,y::q,h=>by
  have h':puD x=true/\puL r=true:=by simpa [puL] using h
  simp only [eqL,ur,eqD_iff h'.1,eqL_iff h'.2,Ux]
end
mutual
theorem Is.det {H:Hp}:∀{d e:D}{v:V},puD d=true->puD e=true->Is H d v->Is H e v->d=e
 | .str a,e,v,_,he,h1,h2=>by
  obtain⟨rfl,_⟩:=(show v= .str a/\_ from h1)
  cases e with
  |str b=>obtain⟨q,_⟩:=(show V.str a=V.str b/\_ from h2);cases q;rfl
  |int b=>cases(show V.str a=V.int b from h2)
  |tup ys=>obtain⟨p,us,q,_⟩:=(show∃p us,V.str a=V.ref p/\_ from h2);cases q
  |_=>simp [puD] at he
 | .int a,e,v,_,he,h1,h2=>by
  cases(show v= .int a from h1)
  cases e with
  |str b=>obtain⟨q,_⟩:=(show V.int a=V.str b/\_ from h2);cases q
  |int b=>cases(show V.int a=V.int b from h2);rfl
  |tup ys=>obtain⟨p,us,q,_⟩:=(show∃p us,V.int a=V.ref p/\_ from h2);cases q
  |_=>simp [puD] at he
 | .tup xs,e,v,hd,he,h1,h2=>by
  obtain⟨p,vs,rfl,hp,hl⟩:=(show∃p vs,v=V.ref p/\H p=some (.tup vs)/\IsL H xs vs from h1)
  cases e with
  |str b=>obtain⟨q,_⟩:=(show V.ref p=V.str b/\_ from h2);cases q
  |int b=>cases(show V.ref p=V.int b from h2)
  |tup ys=>
   obtain⟨U,us,q,O,aa⟩:=(show∃U us,V.ref p=V.ref U/\H U=some (.tup us)/\IsL H ys us from h2)
   cases q;rw [hp] at O;cases O;rw [IsL.det (by simpa [puD] using hd) (by simpa [puD] using he) hl aa]
  |_=>simp [puD] at he
 | .non,_,_,hd,_,_,_=>by simp [puD] at hd
 | .bl _,_,_,hd,_,_,_=>by simp [puD] at hd
 | .lst,_,_,hd,_,_,_=>by simp [puD] at hd
 | .dct,_,_,hd,_,_,_=>by simp [puD] at hd
theorem IsL.det {H:Hp}:∀{xs ys:oj D}{vs:oj V},puL xs=true->puL ys=true->IsL H xs vs->IsL H ys vs->xs=ys
 | [],[],_,_,_,_,_=>rfl
 | [],_::_,_,_,_,h1,h2=>by
  cases(show _= [] from h1)
  obtain⟨v,r,q,_⟩:=(show∃v r,[]=v::r/\_ from h2)
  cases q
 |_::_,[],_,_,_,h1,h2=>by
  cases(show _= [] from h2)
  obtain⟨v,r,q,_⟩:=(show∃v r,[]=v::r/\_ from h1)
  cases q
 |x::xs,y::ys,_,hd,he,h1,h2=>by
  obtain⟨v,r,rfl,a1,a2⟩:=h1;obtain⟨v',r',q,b1,b2⟩:=h2;cases q;have O:puD x=true/\puL xs=true:=by simpa [puL] using hd
  have U:puD y=true/\puL ys=true:=by simpa [puL] using he
  rw [Is.det O.1 U.1 a1 b1,IsL.det O.2 U.2 a2 b2]
end
theorem eqL_all:∀(xs ys:oj D),eqL xs ys=((List.range (min xs.length ys.length)).all (λj=>eqD (xs.getD j .non) (ys.getD j .non))&&xs.length==ys.length)
 | [],[]=>by simp [eqL]
 | [],_::_=>by simp [eqL]
 |_::_,[]=>by simp [eqL]
 |x::r,y::q=>by
  have O:=eqL_all r q;rw [ui,ui,show min (r.length+1) (q.length+1)=min r.length q.length+1 by omega,List.range_succ_eq_map,vi,Up]
  have e:(List.range (min r.length q.length)).all ((λj=>eqD ((x::r).getD j .non) ((y::q).getD j .non))∘Nat.succ)=(List.range (min r.length q.length)).all λj=>eqD (r.getD j .non) (q.getD j .non):=by congr 1
  rw [e];have e2:(r.length+1==q.length+1)=(r.length==q.length):=by rw [vx];simp
  rw [e2,Bool.and_assoc,<-O]
  rfl
section
variable {X:Cx}{oq:oj (o3×Obj)}{σ:St}{H:Hp}{s:o7}
theorem eqAt_str (I:Inv X oq σ H s){z:Str}{t:Tok}{e:D}{u:V}{b:o6}{A:oh}(U:puD e=true)(h2:Is H e u)(O:RelV u b)(hu:A.units<cLine):SeqAt.EqAt A s (.str z t) b (eqD (.str z) e):=by
 cases e with
 |str y=>
  obtain⟨rfl,_⟩:=(show u= .str y/\_ from h2)
  obtain⟨t2,rfl⟩:=O;exact SeqAt.EqAt.str_str _ _ _ _
 |int y=>
  cases(show u= .int y from h2)
  obtain⟨t2,rfl⟩:=O;exact Ur _ _ _ _
 |tup ys=>
  obtain⟨p,us,rfl,hp,hl⟩:=(show∃p us,u=V.ref p/\H p=some (.tup us)/\IsL H ys us from h2)
  cases O;obtain⟨its,_,q,_⟩:=I.tuple (.inl (.of hp));exact SeqAt.EqAt.str_tuple _ _ q hu
 |_=>simp [puD] at U
theorem eqAt_int (I:Inv X oq σ H s){z:Int}{t:Tok}{e:D}{u:V}{b:o6}{A:oh}(U:puD e=true)(h2:Is H e u)(O:RelV u b)(hu:A.units<cLine):SeqAt.EqAt A s (.int z t) b (eqD (.int z) e):=by
 cases e with
 |str y=>
  obtain⟨rfl,_⟩:=(show u= .str y/\_ from h2)
  obtain⟨t2,rfl⟩:=O;exact Uq _ _ _ _
 |int y=>
  cases(show u= .int y from h2)
  obtain⟨t2,rfl⟩:=O;exact SeqAt.EqAt.int_int _ _ _ _
 |tup ys=>
  obtain⟨p,us,rfl,hp,hl⟩:=(show∃p us,u=V.ref p/\H p=some (.tup us)/\IsL H ys us from h2)
  cases O;obtain⟨its,_,q,_⟩:=I.tuple (.inl (.of hp));exact SeqAt.EqAt.int_tuple _ _ q hu
 |_=>simp [puD] at U
theorem zU:∀{xs:oj D}{j:Nat}{x:D},puL xs=true->xs[j]? =some x->puD x=true
 | [],_,_,_,e=>by simp at e
 |y::r,0,x,h,e=>by
  have h':puD y=true/\puL r=true:=by simpa [puL] using h
  have:y=x:=by simpa using e
  exact this▸h'.1
 |y::r,j+1,x,h,e=>by
  have h':puD y=true/\puL r=true:=by simpa [puL] using h
  exact zU h'.2 (by simpa using e)
theorem eqAt_tup (I:Inv X oq σ H s){xs:oj D}{e:D}{v u:V}{a b:o6}{A:oh}(hd:puD (.tup xs)=true)(he:puD e=true)(h1:Is H (.tup xs) v)(h2:Is H e u)(r1:RelV v a)(r2:RelV u b)(hu:A.units<cLine)
  (ih:∀x∈xs,∀(e:D) (v u:V) (a b:o6),puD x=true->puD e=true->Is H x v->Is H e u->RelV v a->RelV u b->SeqAt.EqAt A.in1 s a b (eqD x e)):SeqAt.EqAt A s a b (eqD (.tup xs) e):=by
 obtain⟨p,vs,rfl,hp,hl⟩:=(show∃p vs,v=V.ref p/\H p=some (.tup vs)/\IsL H xs vs from h1)
 cases r1;obtain⟨its,rv,q,_⟩:=I.tuple (.inl (.of hp));cases e with
 |str y=>
  obtain⟨rfl,_⟩:=(show u= .str y/\_ from h2)
  obtain⟨t2,rfl⟩:=r2;exact SeqAt.EqAt.tuple_str _ _ q hu
 |int y=>
  cases(show u= .int y from h2)
  obtain⟨t2,rfl⟩:=r2;exact SeqAt.EqAt.tuple_int _ _ q hu
 |tup ys=>
  by_cases hv:V.ref p=u
  ·have:=Is.det (e:= .tup ys) hd he h1 (hv▸h2);subst hv;cases r2;rw [<-this,(eqD_iff hd).mpr rfl];exact SeqAt.EqAt.same _
  ·obtain⟨p',us,rfl,aa,O⟩:=(show∃p' us,u=V.ref p'/\H p'=some (.tup us)/\IsL H ys us from h2)
   cases r2;obtain⟨its',U,q',_⟩:=I.tuple (.inl (.of aa));have l1:its.length=xs.length:=by rw [<-rv.length,hl.length]
   have l2:its'.length=ys.length:=by rw [<-U.length,O.length]
   have ac:puL xs=true:=by simpa [puD] using hd
   have ad:puL ys=true:=by simpa [puD] using he
   have ae:=UE (e:=λj=>eqD (xs.getD j .non) (ys.getD j .non)) q q' hu λj a1 a2=>by
    have j1:j<xs.length:=by rw [<-l1];simpa using a1
    have j2:j<ys.length:=by rw [<-l2];simpa using a2
    obtain⟨v1,e1,i1⟩:=hl.get (i:=j) (d:=xs[j]) (by simp [j1])
    obtain⟨v2,e2,i2⟩:=O.get (i:=j) (d:=ys[j]) (by simp [j2])
    obtain⟨b1,f1,g1⟩:=rv.get e1;obtain⟨b2,f2,g2⟩:=U.get e2;have k1:its.toArray[j]=b1:=by
     have:=f1;rw [uf (by rw [l1];exact j1)] at this
     simpa using this
    have k2:its'.toArray[j]=b2:=by
     have:=f2;rw [uf (by rw [l2];exact j2)] at this
     simpa using this
    have d1:xs.getD j .non=xs[j]:=by simp [List.getD,j1]
    have d2:ys.getD j .non=ys[j]:=by simp [List.getD,j2]
    show SeqAt.EqAt _ s _ _ (eqD (xs.getD j .non) (ys.getD j .non));rw [k1,k2,d1,d2];exact ih _ (uT j1) _ _ _ _ _ (zU (j:=j) ac (by simp [j1])) (zU (j:=j) ad (by simp [j2])) i1 i2 g1 g2
   have e1:eqD (.tup xs) (.tup ys)=((List.range (min its.toArray.size its'.toArray.size)).all (λj=>eqD (xs.getD j .non) (ys.getD j .non))&&its.toArray.size==its'.toArray.size):=by
    rw [uj,uj,l1,l2,<-eqL_all];simp only [eqD]
   rw [e1];exact SeqAt.EqAt.of_refs (λz=>hv (by rw [z])) ae
 |_=>simp [puD] at he
theorem eqAt_D (I:Inv X oq σ H s):∀(n:Nat) (d e:D) (v u:V) (a b:o6) (A:oh),dp d<=n->puD d=true->puD e=true->Is H d v->Is H e u->RelV v a->RelV u b->A.units+n<cLine->SeqAt.EqAt A s a b (eqD d e):=by
 intro n
 induction n with
 |zero=>
  intro d e v u a b A hn hd U h1 h2 r1 r2 hu;cases d with
  |int z=>
   cases(show v= .int z from h1)
   obtain⟨t,rfl⟩:=r1;exact eqAt_int I U h2 r2 hu
  |str z=>simp [dp] at hn
  |tup xs=>simp [dp] at hn
  |_=>simp [puD] at hd
 |succ n ih=>
  intro d e v u a b A hn hd U h1 h2 r1 r2 hu;have O:A.units<cLine:=Uu (UI _ _) hu;cases d with
  |int z=>
   cases(show v= .int z from h1)
   obtain⟨t,rfl⟩:=r1;exact eqAt_int I U h2 r2 O
  |str z=>
   obtain⟨rfl,_⟩:=(show v= .str z/\_ from h1)
   obtain⟨t,rfl⟩:=r1;exact eqAt_str I U h2 r2 O
  |tup xs=>
   have hm:dpL xs<=n:=by
    have:dp (.tup xs)=1+dpL xs:=by simp only [dp]
    omega
   exact eqAt_tup I hd U h1 h2 r1 r2 O λx hx e v u a b k1 k2 k3 k4 k5 k6=>ih x e v u a b A.in1 ((zJ xs).mp hm x hx) k1 k2 k3 k4 k5 k6 (by rw [uP];omega)
  |_=>simp [puD] at hd
end
section
variable {X:Cx}
def trD:D->Bool
 | .str _=>true
 | .tup xs=>puL xs
 |_=>false
theorem parts_eq {oq:oj (o3×Obj)}{σ:St}{H:Hp}{s:o7}(I:Inv X oq σ H s){A:oh}{n:Nat}{xs ys:oj D}{vs us:oj V}{its its':oj o6}(hn:dpL xs<=n)(hd:puL xs=true)(he:puL ys=true)(hl:IsL H xs vs)(O:IsL H ys us)(rv:Vals vs its)(U:Vals us its')(hu:A.units+n<cLine):
  ∀j (a1:j<its.toArray.size) (a2:j<its'.toArray.size),SeqAt.EqAt A s its.toArray[j] its'.toArray[j] (eqD (xs.getD j .non) (ys.getD j .non)):=λj a1 a2=>by
 have l1:its.length=xs.length:=by rw [<-rv.length,hl.length]
 have l2:its'.length=ys.length:=by rw [<-U.length,O.length]
 have j1:j<xs.length:=by rw [<-l1];simpa using a1
 have j2:j<ys.length:=by rw [<-l2];simpa using a2
 obtain⟨v1,e1,i1⟩:=hl.get (i:=j) (d:=xs[j]) (by simp [j1])
 obtain⟨v2,e2,i2⟩:=O.get (i:=j) (d:=ys[j]) (by simp [j2])
 obtain⟨b1,f1,g1⟩:=rv.get e1;obtain⟨b2,f2,g2⟩:=U.get e2;have k1:its.toArray[j]=b1:=by
  have:=f1;rw [uf (by rw [l1];exact j1)] at this
  simpa using this
 have k2:its'.toArray[j]=b2:=by
  have:=f2;rw [uf (by rw [l2];exact j2)] at this
  simpa using this
 have d1:xs.getD j .non=xs[j]:=by simp [List.getD,j1]
 have d2:ys.getD j .non=ys[j]:=by simp [List.getD,j2]
 rw [k1,k2,d1,d2];exact eqAt_D I n _ _ _ _ _ _ A ((zJ xs).mp hn _ (uT j1)) (zU (j:=j) hd (by simp [j1])) (zU (j:=j) he (by simp [j2])) i1 i2 g1 g2 hu
theorem rc_D {oq:oj (o3×Obj)}{σ:St}{H:Hp}{s:o7}(I:Inv X oq σ H s){A:oh}{d e:D}{x y:V}{v u:o6}(h1:Is H d x)(h2:Is H e y)(p1:trD d=true)(p2:trD e=true)(hn:dp d<=60)(rx:RelV x v)(ry:RelV y u)(hu:A.units+64<cLine):
  SeqAt.RcAt A s v u (eqD d e)/\SeqAt.RcNeAt A s v u (!eqD d e):=by
 have O:A.units<cLine:=by omega
 cases d with
 |str z=>
  obtain⟨rfl,_⟩:=(show x= .str z/\_ from h1)
  obtain⟨t,rfl⟩:=rx;cases e with
  |str w=>
   obtain⟨rfl,_⟩:=(show y= .str w/\_ from h2)
   obtain⟨t2,rfl⟩:=ry;exact⟨SeqAt.RcAt.str_str _ _ _ _,SeqAt.RcNeAt.str_str _ _ _ _⟩
  |tup ys=>
   obtain⟨p,us,rfl,hp,hl⟩:=(show∃p us,y=V.ref p/\H p=some (.tup us)/\IsL H ys us from h2)
   cases ry;obtain⟨its,_,q,_⟩:=I.tuple (.inl (.of hp));exact⟨SeqAt.RcAt.str_tuple _ _ q O,SeqAt.RcNeAt.str_tuple _ _ q O⟩
  |_=>simp [trD] at p2
 |tup xs=>
  obtain⟨p,vs,rfl,hp,hl⟩:=(show∃p vs,x=V.ref p/\H p=some (.tup vs)/\IsL H xs vs from h1)
  cases rx;obtain⟨its,rv,q,_⟩:=I.tuple (.inl (.of hp));cases e with
  |str w=>
   obtain⟨rfl,_⟩:=(show y= .str w/\_ from h2)
   obtain⟨t2,rfl⟩:=ry;exact⟨SeqAt.RcAt.tuple_str _ _ q O,SeqAt.RcNeAt.tuple_str _ _ q O⟩
  |tup ys=>
   obtain⟨p',us,rfl,ac,U⟩:=(show∃p' us,y=V.ref p'/\H p'=some (.tup us)/\IsL H ys us from h2)
   cases ry;obtain⟨its',aa,q',_⟩:=I.tuple (.inl (.of ac));have hm:dpL xs<=60:=by
    have:dp (.tup xs)=1+dpL xs:=by simp only [dp]
    omega
   have l1:its.length=xs.length:=by rw [<-rv.length,hl.length]
   have l2:its'.length=ys.length:=by rw [<-aa.length,U.length]
   have pe:=parts_eq I (A:=A.in1) hm (by simpa [trD] using p1) (by simpa [trD] using p2) hl U rv aa (by rw [uP];omega)
   have e1:eqD (.tup xs) (.tup ys)=((List.range (min its.toArray.size its'.toArray.size)).all (λj=>eqD (xs.getD j .non) (ys.getD j .non))&&its.toArray.size==its'.toArray.size):=by
    rw [uj,uj,l1,l2,<-eqL_all];simp only [eqD]
   rw [e1];exact⟨UE q q' O pe,SeqAt.RcNeAt.tuples q q' O pe⟩
  |_=>simp [trD] at p2
 |_=>simp [trD] at p1
def rCmpD (g:Bool->Bool):V->V->Hp->VK->Prop:=λx y H Q=>∃d e:D,Is H d x/\Is H e y/\trD d=true/\trD e=true/\dp d<=60/\Q (.bl (g (eqD d e))) H
theorem op_eqD (O:X.A.units+64<cLine):OpR X (compareOp .Eq) (rCmpD id):=by
 intro oq s σ H x y v u Q I U ry h;obtain⟨d,e,h1,h2,p1,p2,hn,q⟩:=h;exact(rc_D I h1 h2 p1 p2 hn U ry O).1 X.prog X.w X.xe _ ⟨.bl _,H,I,1,q⟩
end
theorem jB {X:Cx}:y6 X (.builtin "len") (λxs H Q=>(∃z:Str,xs= [.str z]/\z.length<=sizeLine/\Q (.int z.length) H)∨∃p ys,xs= [.ref p]/\(SqL X.K H p ys∨SqT X.K H p ys)/\(ys.length<=sizeLine->Q (.int ys.length) H)):=by
 intro oq s σ H xs us Q I r h;rcases h with⟨z,e,O,q⟩|h
 ·exact W5 oq s σ H xs us Q I r ⟨_,z.length,e,⟨O,1⟩,q⟩
 ·exact call_lenB oq s σ H xs us Q I r h
def gLstU (K:o0)(n:Nat)(t:TGs):TG:=λv σ H Q=>∃a xs,v= .ref a/\SqL K H a xs/\xs.length=n/\t xs σ H Q
theorem pg_lstU {X:Cx}{es:oj Expr}{k:Nat}{t:TGs}{n:Nat}{pos:Pos}(hc:X.calm=true)(h:PGs X es t)
  (hn:(assignEach es X.env).length=n) (O:(assignEach es X.env).findIdx? (·.1)=none):PG X (.Tuple es k pos) (gLstU X.K n t):=by
 intro oq s σ H v u Q I r U;obtain⟨a,xs,e1,hq,hl,U⟩:=U;subst e1;cases r;obtain⟨its,rv,ht,hz⟩:=I.list hq;rw [assign_Tuple];refine wpAny_bind (wpAny_standAt ?_);unfold unpack;rw [O,hn,<-hl,show xs.length=its.toArray.size by simp [rv.length]]
 refine wpAny_bind (wpAny_holding (PySem.W.kun_itemsOf (I.ok.hd hc) ht.isList λh' hx=> ?_));have I1:Inv X oq σ H {s with heap:=h'}:=I.kept (t':=s.toks) λb o e=>hx b o (uI (uw e)) e
 exact h oq _ σ H xs _ Q I1 (by simpa using rv) U
theorem pass1 {P:o9}{w:og}{K:o0}{mg:Str->om o6}{base:o8}{N:oj Str}{qual:Str}{scope:Scope}{f:o3}{cd:o6}{A:oh}{outer:oj Env}{s₀:o7}{H₀:Hp}{E:XK}:
  xm (CX1 P w) (cxOf (CX1 P w) P w K mg base N qual scope f cd A outer s₀ H₀ E) E:=by
 intro oq σ H s e s' I h;obtain⟨ea,C,a0,H',B,rfl,au,ae,htk,aw,al,am,hold,hE⟩:=h;show wpAny (model P w) (A.deeper (envOfC qual scope s₀.heap.objs.size f cd)) (leaving (envOfC qual scope s₀.heap.objs.size f cd) (.ref ea)) (λ_ af=>CX1 P w outer H₀ s₀ E (.ref ea) af) (λe' af=>CX1 P w outer H₀ s₀ E e' af) _;have ax:(A.deeper (envOfC qual scope s₀.heap.objs.size f cd)).frames=some (envOfC qual scope s₀.heap.objs.size f cd::outer):=I.ok.frames;have ag:frs (envOfC qual scope s₀.heap.objs.size f cd::outer)=s₀.heap.objs.size::frs outer:=rfl;have O:Un (frs outer) [] H₀ H s₀.heap s.heap:=I.base;have U:Un (frs (envOfC qual scope s₀.heap.objs.size f cd::outer)) [] H H' s.heap s'.heap:=aw;have aa:Heap.FlyingW B (envOfC qual scope s₀.heap.objs.size f cd::outer) ea (.ref C) a0 s'.heap:=am;have ac:∀b o,s.heap.get? b=some o->b∉frs (envOfC qual scope s₀.heap.objs.size f cd::outer)->∃o',B.get? b=some o':=hold;have ay:=aa.2.2.1;have ad:∀b o,s₀.heap.get? b=some o->b∉frs outer->b∉frs (envOfC qual scope s₀.heap.objs.size f cd::outer):=λb o e hb hm=>by
  rw [ag] at hm;rcases List.mem_cons.mp hm with rfl|hm
  ·exact absurd (uw e) (vw _)
  ·exact hb hm
 have nd:∀b∈frs outer,∀o,s'.heap.get? b=some o->∀vs,o.data≠ .fields vs:=λb hb o e=>by
  obtain⟨_,o',e',hn⟩:=ay.mem (show b∈(envOfC qual scope s₀.heap.objs.size f cd::outer).filterMap (·.frame) from by rw [show(envOfC qual scope s₀.heap.objs.size f cd::outer).filterMap (·.frame)=frs (envOfC qual scope s₀.heap.objs.size f cd::outer) from rfl,ag];exact ub _ hb)
  rw [e] at e';cases e';exact hn
 refine wpAny_leaves_onW (base:=B) (L:=s₀.heap.objs.size) ax rfl aa λaA ah ao=> ?_;have aB:∀b o o',B.get? b=some o'->s'.heap.get? b=some o->aA.get? b=some o:=λb o o' e1 e2=>by
  have:=aa.1 b o' e1;rw [e2] at this;cases this;exact ah.1 b o e1
 refine⟨ea,C,a0,H',B,1,au.trans I.os,ae,htk,⟨?_,?_,?_,?_,?_,?_,?_⟩,al,ah,?_,hE⟩
 ·intro b o e1 hn hb hx;have e2:=O.keep b o e1 hn hb hx;have ak:=O.free b o e1 hn hx;have ap:=ad b o e1 hb;have e3:=U.keep b o e2 ak ap hx;obtain⟨o',e4⟩:=ac b o e2 ap;exact aB b o o' e4 e3
 ·intro b o e1 hn hb hx;obtain⟨sl,e2⟩:=O.slot b o e1 hn hb hx;have ak:=O.free b o e1 hn hx;obtain⟨aC,e3⟩:=U.slot b _ e2 ak (by rw [ag];exact ub _ hb) hx
  obtain⟨aq,e4⟩:=ao b _ e3 (nd b hb _ e3);exact⟨aq,e4⟩
 ·intro b o e1 hn hx;obtain⟨o',e2⟩:=O.there b o e1 hx;exact U.free b o' e2 (O.free b o e1 hn hx) hx
 ·intro b o e1 hx;obtain⟨o',e2⟩:=O.there b o e1 hx;by_cases hb:b∈frs outer
  ·obtain⟨o2,e3⟩:=U.there b o' e2 hx;obtain⟨aq,e4⟩:=ao b _ e3 (nd b hb _ e3);exact⟨_,e4⟩
  ·obtain⟨o2,e3⟩:=ac b o' e2 (ad b o e1 hb);exact⟨o2,ah.1 b o2 e3⟩
 ·exact λb xs e=>U.tups b xs (O.tups b xs e)
 ·exact λb o u e=>U.frzs b o u (O.frzs b o u e)
 ·intro b ps e;obtain⟨m1,e1⟩:=O.tbls b ps e;obtain⟨m2,e2⟩:=U.tbls b _ e1;exact⟨m1++m2,by rw [<-Array.append_assoc];exact e2⟩
 ·intro b o e1 hb;obtain⟨o',e2⟩:=O.there b o e1 (by simp)
  exact ac b o' e2 (ad b o e1 hb)
theorem passF {X:Cx}:xm (CX1 X.prog X.w) X E0:=λ_ _ _ _ _ _ _ h=>by
 obtain⟨_,_,_,_,_,_,_,_,_,_,_,_,_,z⟩:=h;exact False.elim z
end L2
namespace L2
open PySem PyProof.Rows
theorem Tk.updD {H:Hp}{p:o3}{xs ys:oj (Key×V)}(h:H p=some (.dK xs)):Tk H (upd H p (.dK ys)):=by
 refine⟨λb zs e=> ?_,λb zs e=>⟨zs,?_⟩,λb zs e=> ?_⟩
 ·rw [qh (λz=>by rw [z,h] at e;cases e)];exact e
 ·rw [qh (λz=>by rw [z,h] at e;cases e)];exact e
 ·by_cases z:b=p
  ·exact⟨ys,by rw [z];exact qf⟩
  ·exact⟨zs,by rw [qh z];exact e⟩
theorem Tk.updI {H:Hp}{p C dx C' dx':o3}{xs ys:oj (Str×V)}(h:H p=some (.ins C dx xs)):Tk H (upd H p (.ins C' dx' ys)):=
 ⟨λb zs e=>by rw [qh (λz=>by rw [z,h] at e;cases e)];exact e,λb zs e=>⟨zs,by rw [qh (λz=>by rw [z,h] at e;cases e)];exact e⟩,λb zs e=>⟨zs,by rw [qh (λz=>by rw [z,h] at e;cases e)];exact e⟩⟩
section
variable {X:Cx}
def rStarts:V->oj V->Hp->VK->Prop:=λx vs H Q=>∃z y:Str,x= .str z/\vs= [.str y]/\Q (.bl (Txt.startswith z y)) H
theorem mt_starts:MtM X "str.startswith" rStarts:=by
 intro oq s σ H x vs v us Q I O rv h;obtain⟨z,y,rfl,rfl,q⟩:=h;obtain⟨t,rfl⟩:=O;obtain⟨u,rfl,t',rfl⟩:=rv.one;exact SC.startswith ⟨.bl (Txt.startswith z y),H,I,1,q⟩
end
theorem lc_dicF {d A:o3}{o:Obj}{H1:Hp}{tc:TT}{te:TE}{tl:St}{Q:VK}{kvs:oj (Key×V)}{ls:oj Str}(p:Str->Bool)(f:Str->V)(hd:H1 d=some (.frz o (.dK kvs)))(hk:kvs.map (·.1)=ls.map Sum.inr)(hn:ls.length<=sizeLine)(hA:H1 A=none)
  (U:∀z H (R:Bool->Hp->Prop),z∈ls->Same H1 H->R (p z) H->tc (some (.str z)::tl) H R)
  (aa:∀z H (R:VK),z∈ls->Same H1 H->R (f z) H->te (some (.str z)::tl) H R)
  (hQ:∀H',Same H1 H'->H' A=some (.lst ((ls.filter p).map f))->Q (.ref A) H'):lcGo A (Itd d o) (YC 0) tc te (none::tl) H1 Q:=by
 have ad:kvs.length=ls.length:=by
  have:=congrArg List.length hk
  simpa using this
 refine⟨ls.length,λi σ ys H=>(∃w,σ=w::tl)/\ys=((ls.take i).filter p).map f/\Same H1 H,hn,⟨⟨none,1⟩,1,qg hA _⟩,?_,?_⟩
 ·rintro i σ ys H hi ⟨⟨w,rfl⟩,rfl,sm⟩ O hy;refine⟨⟨kvs,sm _ _ hd,by omega⟩,?_⟩
  rintro x H' ⟨rfl,hx⟩;have e:=hx kvs (sm _ _ hd);have e2:(kvs.map λp=>kV p.1)[i]? =some (V.str ls[i]):=by
   have:(kvs.map λp=>kV p.1)=(kvs.map (·.1)).map kV:=by rw [uG];rfl
   rw [this,hk,uG,uF,uf hi]
   rfl
  rw [e2] at e;cases e;have et:ls.take (i+1)=ls.take i++ [ls[i]]:=by rw [vv,uf hi];rfl
  have ac:∀ys,Same H1 (upd H' A (.lst ys)):=λys b o' e=>by
   rw [qh (qj e hA)];exact sm _ _ e
  dsimp only [YC,List.set];refine U ls[i] H' _ (uT hi) sm ?_;cases hp:p ls[i] with
  |true=>
   refine iteT (aa ls[i] H' _ (uT hi) sm ⟨O,⟨0⟩,?_,ac _⟩);rw [et,List.filter_append,uu];simp [hp]
  |false=>
   refine iteF ⟨O,⟨0⟩,?_,sm⟩;rw [et,List.filter_append,uu];simp [hp]
 ·rintro σ ys H ⟨_,rfl,sm⟩ O;rw [Um] at O;exact⟨⟨kvs,sm _ _ hd,by omega⟩,hQ H sm O⟩
theorem lc_strs {K:o0}{a A:o3}{H1:Hp}{te:TE}{tl:St}{Q:VK}{ls:oj Str}(C:Nat->oj V->Hp->Prop)(ha:H1 a=some (.lst (ls.map V.str)))(hn:ls.length<=sizeLine)(hA:H1 A=none)(h0:C 0 [] (upd H1 A (.lst [])))
  (ac:∀i z ys H,ls[i]? =some z->C i ys H->H A=some (.lst ys)->H a=some (.lst (ls.map V.str))->ys.length<=i->∀R:VK,(∀y U,U A=some (.lst ys)->U a=some (.lst (ls.map V.str))->C (i+1) (ys++ [y]) (upd U A (.lst (ys++ [y])))->R y U)->te (some (.str z)::tl) H R)
  (hQ:∀ys H,C ls.length ys H->H A=some (.lst ys)->Q (.ref A) H):lcGo A (Itl K a) (YC 0) tYes te (none::tl) H1 Q:=by
 have aa:a≠A:=qj ha hA;refine⟨ls.length,λi σ ys H=>(∃w,σ=w::tl)/\C i ys H/\H a=some (.lst (ls.map V.str)),hn,⟨⟨none,1⟩,h0,by rw [qh aa];exact ha⟩,?_,?_⟩
 ·rintro i σ ys H hi ⟨⟨w,rfl⟩,hc,hl⟩ O hy;have e0:(ls.map V.str)[i]? =some (V.str ls[i]):=by rw [uF,uf hi];rfl
  refine⟨⟨_,_,SqL.of hl,e0⟩,?_⟩;rintro x H' ⟨rfl,hx⟩;have e:=hx _ (SqL.of hl);rw [e0] at e;cases e;dsimp only [YC,tYes,List.set];rw [if_pos rfl];exact ac i ls[i] ys H' (uf hi) hc O hl hy _ λy U h4 h5 c4=>⟨h4,⟨0⟩,c4,by rw [qh aa];exact h5⟩
 ·rintro σ ys H ⟨_,hc,hl⟩ O;exact⟨⟨_,SqL.of hl,by simp⟩,hQ ys H hc O⟩
section
variable {X:Cx}{K:o0}{o e:Expr}{es:oj Expr}{to:TE}{t:TA}{name:Str}{apos cpos:Pos}{T id:String}{r:V->oj V->Hp->VK->Prop}
theorem pe_bmK (hK:X.K=K)(pa:PlainAttrs T)(slot:Slot T name id)(ad:typeOf (.builtin id)=pure (.type "method_descriptor"))(hm:MtR X id r)(ho:PE X o to)(ha:PA X (e::es) t)
  (U:attributeBase o name X.env (eval o X.env)=eval o X.env)
  (ac:((backTo cpos (starEach (e::es) X.env)).all (λx=> !x.1)&&(backToKw cpos (keywordEach [] X.env)).all (λx=>x.1.isSome)
   &&decide ((e::es).length+([]:oj Keyword).length+(if([]:oj Keyword).isEmpty then 0 else 1)<30))=true)
  (aa:(apos.endLine==cpos.line)=true) (hs:starEach (e::es) X.env=(false,eval e X.env)::starEach es X.env) (O:(backTo cpos (starEach es X.env)).any (·.1)=false):
  PE X (.Call (.Attribute o name apos) (e::es) [] cpos) (tBM K T r to t):=by
 subst hK;exact jU pa slot ad hm ho ha U ac aa hs O
end
theorem zZ {α β:Type}{F:α->β->Prop}:∀{l₁:oj α}{l₂:oj β},Paired F l₁ l₂->∀{j:Nat}{a:α}{b:β},l₁[j]? =some a->l₂[j]? =some b->F a b
 |_,_,.nil,j,a,b,h,_=>by simp at h
 |_,_,.cons f r,0,a,b,h1,h2=>by
  cases h1;cases h2;exact f
 |_,_,.cons f r,j+1,a,b,h1,h2=>zZ r (j:=j) (by simpa using h1) (by simpa using h2)
section
variable {X:Cx}{oq:oj (o3×Obj)}{σ:St}{H:Hp}{s:o7}
theorem eval_items {o:Expr}{to:TE}{apos cpos:Pos}{R:o6->o7->Prop}{Q:VK}(ho:PE X o to)(I:Inv X oq σ H s)(O:attributeBase o "items" X.env (eval o X.env)=eval o X.env)(U:(apos.endLine==cpos.line)=true)
  (h:to σ H Q)
  (k:∀(s1:o7) (H1:Hp) (x:V),Inv X oq σ H1 s1->Q x H1->∃(d:o3) (kvs:oj (Key×V)),x= .ref d/\Rd H1 d (.dK kvs)/\R (.ref s1.heap.objs.size) {s1 with heap:=s1.heap.push {cls:= .type "dict_items",data:= .fields #[.ref d]}}):
  wpAny (model X.prog X.w) X.A (eval (.Call (.Attribute o "items" apos) [] [] cpos) X.env) R X.xe s:=by
 refine wpAny_Call_method0_late O U (thn (ho oq s σ H _ I h) λv s1 ⟨x,H1,I1,r1,q⟩=> ?_);obtain⟨d,kvs,ex,hd,q2⟩:=k s1 H1 x I1 q;subst ex;cases r1;obtain⟨hz,lo,vs,ac,dd⟩:=zo I1.hok hd;have aa:∀a,Value.ref d= .ref a->∃ob,s1.heap.get? a=some ob/\ob.dict=none:=dict_noDict I1 (y:=kV (Sum.inl 0)) (.inl ⟨kvs,Sum.inl 0,hd,1,1⟩);exact⟨"dict","dict.items",Ut,PySem.F.slot_dict_items,PySem.F.type_dict_items,dd.typeIs,aa,vF rfl (PySem.evalArgs_none (call_meetsIn PySem.F.slot_dict_items dd.typeIs PySem.F.entry_dict_items (PySem.F.args_dict_items_1 _) (meets_dict_items (Qd X.prog X.w) d lo) ⟨⟨vs,dd⟩,q2⟩))⟩
end
def okHd:D->Bool
 | .non=>true
 |d=>trD d
section
variable {X:Cx}
def rEqM:V->V->Hp->VK->Prop:=λx y H Q=>∃(d:D) (z:Str),Is H d x/\y= .str z/\z.length<=1000/\okHd d=true/\dp d<=60/\Q (.bl (eqD d (.str z))) H
theorem op_eqM (hu:X.A.units+64<cLine):OpR X (compareOp .Eq) rEqM:=by
 intro oq s σ H x y v u Q I O U h;obtain⟨d,z,hd,rfl,hz,hk,hp,q⟩:=h;cases d with
 |non=>
  cases(show x= .non from hd)
  exact QM oq s σ H .non (.str z) v u Q I O U ⟨1,by simpa [eqD] using q⟩
 |str a=>exact op_eqD hu oq s σ H x _ v u Q I O U ⟨_,.str z,hd,⟨1,by rw [uA];omega⟩,hk,1,hp,q⟩
 |tup a=>exact op_eqD hu oq s σ H x _ v u Q I O U ⟨_,.str z,hd,⟨1,by rw [uA];omega⟩,hk,1,hp,q⟩
 |_=>simp [okHd,trD] at hk
def rInM (K:o0):V->V->Hp->VK->Prop:=λx y H Q=>∃(d:D) (p:o3) (ls:oj Str),Is H d x/\y= .ref p/\(SqL K H p (ls.map V.str)∨SqT K H p (ls.map V.str))/\(∀z∈ls,z.length<=1000)/\okHd d=true/\dp d<=60/\Q (.bl (ls.any λz=>eqD d (.str z))) H
theorem flat_ss (us:oj Str):(us.map V.str).all zp=true:=by
 rw [Up,vX];exact λ_ _=>rfl
theorem op_inM (hu:X.A.units+64<cLine):OpR X (compareOp .In) (rInM X.K):=by
 intro oq s σ H x y v u Q I rx ry h;obtain⟨d,p,ls,hd,rfl,O,ac,hk,hp,q⟩:=h;cases d with
 |non=>
  cases(show x= .non from hd)
  refine QR oq s σ H .non _ v u Q I rx ry ⟨p,0,O,1,flat_ss _,?_⟩;have e:inV .non (ls.map V.str)=ls.any λz=>eqD .non (.str z):=by
   unfold inV;rw [List.any_map]
   rfl
  rw [if_neg u8,e];exact q
 |str a=>
  obtain⟨rfl,_⟩:=hd;refine QR oq s σ H _ _ v u Q I rx ry ⟨p,0,O,1,flat_ss _,?_⟩;have e:inV (.str a) (ls.map V.str)=ls.any λz=>eqD (.str a) (.str z):=by
   unfold inV;rw [List.any_map];refine congrArg (λf=>ls.any f) (funext λz=> ?_);show(z==a)=(a==z);rw [vx,beq_iff_eq,beq_iff_eq];exact eq_comm
  rw [if_neg u8,e];exact q
 |tup xs=>
  have e:(ls.any λz=>eqD (.tup xs) (.str z))=false:=by
   rw [List.any_eq_false];intro z _;simp [eqD]
  rw [e] at q;obtain⟨pa,vs,rfl,ha,hl⟩:=hd;cases rx;cases ry;obtain⟨ad,ae,af,_⟩:=I.tuple (.inl (.of ha));have ag:X.A.units<cLine:=by omega
  have U:∀{its:oj o6},Vals (ls.map V.str) its->∀w∈its,∀A:oh,A.units+1<cLine->SeqAt.EqAt A s w (.ref pa) false:=by
   intro its r w hw A hA;obtain⟨j,hj⟩:=List.mem_iff_getElem?.mp hw;have aa:j<ls.length:=by
    have:=(List.getElem?_eq_some_iff.mp hj).1;have:=r.length;rw [u9] at this;omega
   obtain⟨u',e1,e2⟩:=r.get (i:=j) (x:=V.str ls[j]) (by rw [uF,uf aa];rfl)
   rw [hj] at e1;cases e1;have:=eqAt_D I 1 (.str ls[j]) (.tup xs) (.str ls[j]) (.ref pa) _ (.ref pa) A (by simp [dp]) rfl (by simpa [okHd,trD,puD] using hk) ⟨1,by have:=ac _ (uT aa);rw [uA];omega⟩ ⟨pa,vs,1,ha,hl⟩ e2 rfl (by omega)
   simpa [eqD] using this
  rcases O with O|O
  ·obtain⟨its,r,pl,hz⟩:=I.list O;refine SeqAt.in_listAt (λ_=>false) pl.isList (λw hw=>U r w (by simpa using hw) _ ?_) ⟨.bl _,H,I,1,?_⟩
   ·first|omega|(rw [uP];omega)|(rw [uP,uP];omega)|(rw [uP,uP,uP];omega)
   ·rw [show its.toArray.any (λ_=>false)=false by rw [List.any_toArray];exact List.any_eq_false.mpr λ_ _=>u8]
    exact q
  ·obtain⟨its,r,pl,hz⟩:=I.tuple O;refine SeqAt.in_tupleAt (λ_=>false) pl (λw hw=>U r w (by simpa using hw) _ ?_) ⟨.bl _,H,I,1,?_⟩
   ·first|omega|(rw [uP];omega)|(rw [uP,uP];omega)|(rw [uP,uP,uP];omega)
   ·rw [show its.toArray.any (λ_=>false)=false by rw [List.any_toArray];exact List.any_eq_false.mpr λ_ _=>u8]
    exact q
 |_=>simp [okHd,trD] at hk
end
end L2
namespace L2
open PySem PySem.Spec PyProof.Rows Builtin Builtin.Str
def tCallX (P:o9)(w:og)(K:o0)(mg:Str->om o6)(base:o8)(k:Nat)(tf:TE)(t:TA):TE:=λσ H Q=>tf σ H λv H1=>∃(f:o3) (fd:FuncData) (ps:oj Str) (sp:Sp),v= .ref f/\
 FnOk P w K mg base CX0 k f fd ps sp/\J5 K fd ps []/\PySem.W.keepIn K (.ref f)=true/\t σ H1 λvs H2=>sp vs H2 Q E0
theorem pe_callX {X:Cx}{o i e:Expr}{es:oj Expr}{O pos:Pos}{tf:TE}{t:TA}{k:Nat}{P:o9}{w:og}{K:o0}{mg:Str->om o6}{base:o8}(e1:X.prog=P/\X.w=w/\X.K=K/\X.mg=mg/\X.base=base)(hf:PE X (.Subscript o i O) tf)(hr:Room k X.A)(ha:PA X (e::es) t)
  (he:starEach (e::es) X.env=(false,eval e X.env)::starEach es X.env) (U:(backTo pos (starEach es X.env)).any (·.1)=false):
  PE X (.Call (.Subscript o i O) (e::es) [] pos) (tCallX P w K mg base k tf t):=by
 obtain⟨rfl,rfl,rfl,rfl,rfl⟩:=e1;intro oq s σ H Q I h;show wpAny _ _ (do callWith pos (<-eval (.Subscript o i O) X.env) [] (backTo pos (starEach (e::es) X.env)) (backToKw pos (keywordEach [] X.env))) _ _ s
 refine wpAny_bind (thn (hf oq s σ H _ I h) λu s1 ⟨v,H1,I1,rv,f,fd,ps,sp,ev,F,hb,hk,q⟩=> ?_);subst ev;obtain rfl:u=Value.ref f:=rv;refine U6 (h₀:=X.base) I1.ok.mod.kin hk (thn (ha pos oq s1 σ H1 _ I1 q) λus s2 ⟨vs,H2,I2,r,q2⟩=>⟨I2.kIn,?_⟩) he U;exact run_fn (ds:= []) (dvs:= []) F hr hb .nil qB I2 r (by rw [vR];exact q2)
theorem W4 (z y:Str)(hi O:Nat):∀(l:oj Nat) (st:Array Nat×Nat),(forIn l st (StrLaws.occBody z y hi O)).run.fst.size<=st.fst.size+l.length
 | [],st=>ug _
 |a::l,st=>by
  rw [Ue];unfold StrLaws.occBody;split
  ·refine uQ (W4 z y hi O l _) ?_;simp only [Array.size_push,ui];omega
  ·refine uQ (W4 z y hi O l _) ?_;simp only [ui];omega
theorem occ_len (z y:Str)(n:Nat):(occurrences z y 0 z.length n).length<=z.length+1:=by
 rw [StrLaws.occ_eq];have:=W4 z y z.length n (List.range' 0 (z.length+1-0)) (#[],0);rw [uX];refine uQ this ?_;simp
noncomputable def spG (z y:Str):oj Str:=if(decide (z.length<y.length)||decide (Builtin.Str.strKind z<Builtin.Str.strKind y))=true then [z] else if(occurrences z y 0 z.length (z.length+1)).isEmpty=true then [z] else partsBetween z (occurrences z y 0 z.length (z.length+1)) y.length
theorem spG_len (z y:Str):(spG z y).length<=z.length+2:=by
 unfold spG;have h:=occ_len z y (z.length+1);split
 ·simp
 ·split
  ·simp
  ·simp only [partsBetween,u9,List.length_zip,ui,uD,List.length_nil];omega
theorem spG_mem {z y p:Str}(h:p∈spG z y):p.length<=z.length:=by
 unfold spG at h;split at h
 ·rw [Ua] at h;subst h;exact ug _
 ·split at h
  ·rw [Ua] at h;subst h;exact ug _
  ·simp only [partsBetween,List.mem_map] at h;obtain⟨q,_,e⟩:=h;rw [<-e];exact strSub_length_le _ _ _
section
variable {X:Cx}
def rSplitG:V->oj V->Hp->VK->Prop:=λx vs H Q=>∃z y,x= .str z/\vs= [.str y]/\0<y.length/\z.length<=1000/\∀p,H p=none->Q (.ref p) (upd H p (.lst ((spG z y).map V.str)))
theorem mt_splitG:MtM X "str.split" rSplitG:=by
 intro oq s σ H x vs v us Q I rx rv h;obtain⟨z,y,rfl,rfl,hy,hz,q⟩:=h;obtain⟨t,rfl⟩:=rx;obtain⟨u,rfl,t',rfl⟩:=rv.one;have aa:z.length<=sizeLine:=by rw [uA];omega
 have O:(y.length==0)=false:=by simp;omega
 have one:spG z y= [z]->∀(T:Nat),0<T->EP X oq σ Q (.ref s.heap.objs.size) {s with heap:=s.heap.push {cls:= .type "list",data:= .seq [Value.str z t].toArray},toks:=T}:=λe T hT=>by
  rw [e] at q;exact Ja (ys:= [V.str z]) I (.cons (show RelV (V.str z) _ from⟨t,1⟩) .nil) (by show 1<=sizeLine;decide) q
 cases h1:(decide (z.length<y.length)||decide (Builtin.Str.strKind z<Builtin.Str.strKind y)) with
 |true=>
  refine vz vo (vy _ _ _) vj (vM _ _) (meets_str_split_cannot_occur z y t t' h1) ?_;exact one (by unfold spG;rw [if_pos h1]) s.toks I.tk
 |false=>
  cases U:(occurrences z y 0 z.length (z.length+1)).isEmpty with
  |true=>
   refine vz vo (vy _ _ _) vj (vM _ _) (meets_str_split_not_found z y t t' h1 O U) ?_;exact one (by unfold spG;rw [if_neg (by rw [h1];decide),if_pos U]) s.toks I.tk
  |false=>
   have hl:=spG_len z y;have e:spG z y=partsBetween z (occurrences z y 0 z.length (z.length+1)) y.length:=by unfold spG;rw [if_neg (by rw [h1];decide),if_neg (by rw [U];decide)]
   rw [e] at q hl;refine vz vo (vy _ _ _) vj (vM _ _) (meets_str_split_sep z y t t' h1 O U aa (by rw [uA];omega)) ?_
   exact Ja I (xj _ _) (by rw [u9,uA];omega) q
def rJoinT (K:o0):V->oj V->Hp->VK->Prop:=λx vs H Q=>∃(sep:Str) (p:o3) (l:oj Str),x= .str sep/\vs= [.ref p]/\SqT K H p (l.map V.str)/\(l.map (·.length)).sum+l.length*sep.length<=1000000/\Q (.str (Str.join sep l)) H
theorem mt_joinT:MtM X "str.join" (rJoinT X.K):=by
 intro oq s σ H x vs v us Q I rx rv h;obtain⟨sep,p,l,rfl,rfl,hp,hz,q⟩:=h;obtain⟨t,rfl⟩:=rx;obtain⟨u,rfl,ru⟩:=rv.one;cases ru;obtain⟨its,r,pl,hl⟩:=I.tuple hp;obtain⟨ps,rfl,e2⟩:=zN r;have U:tooLong ((ps.map (·.1)).toArray.foldl (·+ ·.length+sep.length) 0)=false:=by
  rw [e2];have:=StrLaws.joinTotal sep l;rw [this];unfold tooLong;refine ue ?_;rw [uA];omega
 refine vz F.slot_str_join (vy _ _ _) F.entry_str_join (F.args_str_join_2 _ _) (meets_str_join_tuple sep t p ps U) ⟨(let⟨o,h1,h2,n,h3⟩:=pl;⟨o,n,h1,h2,h3⟩),?_⟩;have O:(glued sep (ps.map (·.1))).length<=sizeLine:=joinFit_length U
 match ps,e2,O with
 | [],e2,O=>
  subst e2;exact⟨O,.str _,H,I.tok _,⟨0⟩,q⟩
 | [a],e2,_=>
  subst e2;exact⟨.str _,H,I,⟨a.2,1⟩,q⟩
 |a::b::r,e2,O=>
  subst e2;refine⟨O,.str _,H,I.tok _,⟨0⟩,?_⟩;rw [StrLaws.glued_eq_join];exact q
theorem sl_any:SlR X (λx lo hi H Q=>rSlS x lo hi H Q∨rSlG X.K x lo hi H Q):=sl_str.or sl_tupG
end
end L2
namespace L2
open PySem PySem.Spec PyProof.Rows
open Builtin.Int (intBits)
section
variable {X:Cx}
def rInK (K:o0)(w:og):R2:=λx y H Q=>∃z a r,x= .str z/\y= .ref a/\KDict K w a/\PySem.W.nsIn K a z=some r/\Q (.bl r.isSome) H
theorem op_inK:OpR X (compareOp .In) (rInK X.K X.w):=by
 intro oq s σ H x y v u Q I U ry h;obtain⟨z,a,r,rfl,rfl,⟨hs,es,n,O,hk⟩,hn,q⟩:=h;obtain⟨t,rfl⟩:=U;cases ry;have hm:=PySem.W.mapOf_K (prog:=X.prog) (w:=X.w) I.kIn O hk;refine wpAny_in_of (strKind_is X.prog X.w z t) hs hm ⟨.bl r.isSome,H,I.tok _,?_,q⟩;rw [PySem.W.find_K O hn]
 rfl
end
end L2
namespace L2
open PySem PySem.Spec PyProof.Rows
mutual
def nD:D->Bool
 | .non=>true
 | .str _=>true
 | .int _=>true
 | .tup xs=>nL xs
 |_=>false
def nL:oj D->Bool
 | []=>true
 |x::r=>nD x&&nL r
end
theorem nL_get:∀{xs:oj D}{j:Nat}{x:D},nL xs=true->xs[j]? =some x->nD x=true
 | [],_,_,_,e=>by simp at e
 |y::r,0,x,h,e=>by
  have h':nD y=true/\nL r=true:=by simpa [nL] using h
  have:y=x:=by simpa using e
  exact this▸h'.1
 |y::r,j+1,x,h,e=>by
  have h':nD y=true/\nL r=true:=by simpa [nL] using h
  exact nL_get h'.2 (by simpa using e)
section
variable {X:Cx}{oq:oj (o3×Obj)}{σ:St}{H:Hp}{s:o7}
theorem all_true (n:Nat):(List.range n).all (λ_=>true)=true:=by simp
theorem op_neNil (hu:X.A.units+64<cLine):OpR X (compareOp .NotEq) (λx y H Q=>∃a b xs,x= .ref a/\y= .ref b/\SqT X.K H a xs/\SqT X.K H b []/\Q (.bl (!xs.isEmpty)) H):=by
 intro oq s σ H x y v u Q I rx ry h;obtain⟨p,p',xs,rfl,rfl,hp,O,q0⟩:=h;cases rx;cases ry;obtain⟨its,rv,q,_⟩:=I.tuple hp;obtain⟨its',U,q',_⟩:=I.tuple O;cases U;have e2:=SeqAt.RcNeAt.tuples (A:=X.A) (e:=λ_=>true) q q' (by omega) λj h1 h2=>absurd h2 (by simp)
 refine e2 X.prog X.w X.xe _ ⟨.bl _,H,I,?_,q0⟩;have l1:=rv.length;show Value.bool (!((List.range (min its.toArray.size 0)).all (λ_=>true)&&its.toArray.size==0))=Value.bool (!xs.isEmpty);rw [all_true,uj,<-l1];cases xs<;>rfl
mutual
def eqN:D->D->Bool
 | .non,.non=>true
 | .str a,.str b=>a==b
 | .int a,.int b=>a==b
 | .tup xs,.tup ys=>eqNL xs ys
 |_,_=>false
def eqNL:oj D->oj D->Bool
 | [],[]=>true
 |x::r,y::q=>eqN x y&&eqNL r q
 |_,_=>false
end
mutual
theorem eqN_iff:∀{d e:D},nD d=true->(eqN d e=true↔d=e)
 | .non,e,_=>by cases e<;>simp [eqN]
 | .str a,e,_=>by cases e<;>simp [eqN]
 | .int a,e,_=>by cases e<;>simp [eqN]
 | .tup xs,.tup ys,h=>by
  have:=eqNL_iff (xs:=xs) (ys:=ys) (by simpa [nD] using h)
  simp only [eqN,this,D.tup.injEq]
 | .tup xs,.non,_=>by simp [eqN]
 | .tup xs,.bl _,_=>by simp [eqN]
 | .tup xs,.int _,_=>by simp [eqN]
 | .tup xs,.str _,_=>by simp [eqN]
 | .tup xs,.lst,_=>by simp [eqN]
 | .tup xs,.dct,_=>by simp [eqN]
 | .bl _,_,h=>by simp [nD] at h
 | .lst,_,h=>by simp [nD] at h
 | .dct,_,h=>by simp [nD] at h
theorem eqNL_iff:∀{xs ys:oj D},nL xs=true->(eqNL xs ys=true↔xs=ys)
 | [],[],_=>by simp [eqNL]
 | [],_::_,_=>by simp [eqNL]
 |_::_,[],_=>by simp [eqNL]
 |x::r,y::q,h=>by
  have h':nD x=true/\nL r=true:=by simpa [nL] using h
  simp only [eqNL,ur,eqN_iff h'.1,eqNL_iff h'.2,Ux]
end
mutual
theorem Is.detN {H:Hp}:∀{d e:D}{v:V},nD d=true->nD e=true->Is H d v->Is H e v->d=e
 | .non,e,v,_,he,h1,h2=>by
  cases(show v= .non from h1)
  cases e with
  |non=>rfl
  |str b=>obtain⟨q,_⟩:=(show V.non=V.str b/\_ from h2);cases q
  |int b=>cases(show V.non=V.int b from h2)
  |tup ys=>obtain⟨p,us,q,_⟩:=(show∃p us,V.non=V.ref p/\_ from h2);cases q
  |_=>simp [nD] at he
 | .str a,e,v,_,he,h1,h2=>by
  obtain⟨rfl,_⟩:=(show v= .str a/\_ from h1)
  cases e with
  |non=>cases(show V.str a=V.non from h2)
  |str b=>obtain⟨q,_⟩:=(show V.str a=V.str b/\_ from h2);cases q;rfl
  |int b=>cases(show V.str a=V.int b from h2)
  |tup ys=>obtain⟨p,us,q,_⟩:=(show∃p us,V.str a=V.ref p/\_ from h2);cases q
  |_=>simp [nD] at he
 | .int a,e,v,_,he,h1,h2=>by
  cases(show v= .int a from h1)
  cases e with
  |non=>cases(show V.int a=V.non from h2)
  |str b=>obtain⟨q,_⟩:=(show V.int a=V.str b/\_ from h2);cases q
  |int b=>cases(show V.int a=V.int b from h2);rfl
  |tup ys=>obtain⟨p,us,q,_⟩:=(show∃p us,V.int a=V.ref p/\_ from h2);cases q
  |_=>simp [nD] at he
 | .tup xs,e,v,hd,he,h1,h2=>by
  obtain⟨p,vs,rfl,hp,hl⟩:=(show∃p vs,v=V.ref p/\H p=some (.tup vs)/\IsL H xs vs from h1)
  cases e with
  |non=>cases(show V.ref p=V.non from h2)
  |str b=>obtain⟨q,_⟩:=(show V.ref p=V.str b/\_ from h2);cases q
  |int b=>cases(show V.ref p=V.int b from h2)
  |tup ys=>
   obtain⟨U,us,q,O,aa⟩:=(show∃U us,V.ref p=V.ref U/\H U=some (.tup us)/\IsL H ys us from h2)
   cases q;rw [hp] at O;cases O;rw [IsL.detN (by simpa [nD] using hd) (by simpa [nD] using he) hl aa]
  |_=>simp [nD] at he
 | .bl _,_,_,hd,_,_,_=>by simp [nD] at hd
 | .lst,_,_,hd,_,_,_=>by simp [nD] at hd
 | .dct,_,_,hd,_,_,_=>by simp [nD] at hd
theorem IsL.detN {H:Hp}:∀{xs ys:oj D}{vs:oj V},nL xs=true->nL ys=true->IsL H xs vs->IsL H ys vs->xs=ys
 | [],[],_,_,_,_,_=>rfl
 | [],_::_,_,_,_,h1,h2=>by
  cases(show _= [] from h1)
  obtain⟨v,r,q,_⟩:=(show∃v r,[]=v::r/\_ from h2)
  cases q
 |_::_,[],_,_,_,h1,h2=>by
  cases(show _= [] from h2)
  obtain⟨v,r,q,_⟩:=(show∃v r,[]=v::r/\_ from h1)
  cases q
 |x::xs,y::ys,_,hd,he,h1,h2=>by
  obtain⟨v,r,rfl,a1,a2⟩:=h1;obtain⟨v',r',q,b1,b2⟩:=h2;cases q;have O:nD x=true/\nL xs=true:=by simpa [nL] using hd
  have U:nD y=true/\nL ys=true:=by simpa [nL] using he
  rw [Is.detN O.1 U.1 a1 b1,IsL.detN O.2 U.2 a2 b2]
end
theorem WS:∀(xs ys:oj D),eqNL xs ys=((List.range (min xs.length ys.length)).all (λj=>eqN (xs.getD j .non) (ys.getD j .non))&&xs.length==ys.length)
 | [],[]=>by simp [eqNL]
 | [],_::_=>by simp [eqNL]
 |_::_,[]=>by simp [eqNL]
 |x::r,y::q=>by
  have O:=WS r q;rw [ui,ui,show min (r.length+1) (q.length+1)=min r.length q.length+1 by omega,List.range_succ_eq_map,vi,Up]
  have e:(List.range (min r.length q.length)).all ((λj=>eqN ((x::r).getD j .non) ((y::q).getD j .non))∘Nat.succ)=(List.range (min r.length q.length)).all λj=>eqN (r.getD j .non) (q.getD j .non):=by congr 1
  rw [e];have e2:(r.length+1==q.length+1)=(r.length==q.length):=by rw [vx];simp
  rw [e2,Bool.and_assoc,<-O]
  rfl
theorem eqAt_nonN (I:Inv X oq σ H s){e:D}{u:V}{b:o6}{A:oh}(U:nD e=true)(h2:Is H e u)(O:RelV u b)(hu:A.units<cLine):SeqAt.EqAt A s .none b (eqN .non e):=by
 cases e with
 |non=>
  cases(show u= .non from h2)
  cases O;exact SeqAt.EqAt.same _
 |str y=>
  obtain⟨rfl,_⟩:=(show u= .str y/\_ from h2)
  obtain⟨t2,rfl⟩:=O;exact SeqAt.EqAt.none_str _ _
 |int y=>
  cases(show u= .int y from h2)
  obtain⟨t2,rfl⟩:=O;exact SeqAt.EqAt.none_int _ _
 |tup ys=>
  obtain⟨p,us,rfl,hp,hl⟩:=(show∃p us,u=V.ref p/\H p=some (.tup us)/\IsL H ys us from h2)
  cases O;obtain⟨its,_,q,_⟩:=I.tuple (.inl (.of hp));exact SeqAt.EqAt.none_tuple q hu
 |_=>simp [nD] at U
theorem eqAt_strN (I:Inv X oq σ H s){z:Str}{t:Tok}{e:D}{u:V}{b:o6}{A:oh}(U:nD e=true)(h2:Is H e u)(O:RelV u b)(hu:A.units<cLine):SeqAt.EqAt A s (.str z t) b (eqN (.str z) e):=by
 cases e with
 |non=>
  cases(show u= .non from h2)
  cases O;exact SeqAt.EqAt.str_none _ _
 |str y=>
  obtain⟨rfl,_⟩:=(show u= .str y/\_ from h2)
  obtain⟨t2,rfl⟩:=O;exact SeqAt.EqAt.str_str _ _ _ _
 |int y=>
  cases(show u= .int y from h2)
  obtain⟨t2,rfl⟩:=O;exact Ur _ _ _ _
 |tup ys=>
  obtain⟨p,us,rfl,hp,hl⟩:=(show∃p us,u=V.ref p/\H p=some (.tup us)/\IsL H ys us from h2)
  cases O;obtain⟨its,_,q,_⟩:=I.tuple (.inl (.of hp));exact SeqAt.EqAt.str_tuple _ _ q hu
 |_=>simp [nD] at U
theorem eqAt_intN (I:Inv X oq σ H s){z:Int}{t:Tok}{e:D}{u:V}{b:o6}{A:oh}(U:nD e=true)(h2:Is H e u)(O:RelV u b)(hu:A.units<cLine):SeqAt.EqAt A s (.int z t) b (eqN (.int z) e):=by
 cases e with
 |non=>
  cases(show u= .non from h2)
  cases O;exact SeqAt.EqAt.int_none _ _
 |str y=>
  obtain⟨rfl,_⟩:=(show u= .str y/\_ from h2)
  obtain⟨t2,rfl⟩:=O;exact Uq _ _ _ _
 |int y=>
  cases(show u= .int y from h2)
  obtain⟨t2,rfl⟩:=O;exact SeqAt.EqAt.int_int _ _ _ _
 |tup ys=>
  obtain⟨p,us,rfl,hp,hl⟩:=(show∃p us,u=V.ref p/\H p=some (.tup us)/\IsL H ys us from h2)
  cases O;obtain⟨its,_,q,_⟩:=I.tuple (.inl (.of hp));exact SeqAt.EqAt.int_tuple _ _ q hu
 |_=>simp [nD] at U
theorem parts_N {xs ys:oj D}{vs us:oj V}{its its':oj o6}{A:oh}(hd:nL xs=true)(he:nL ys=true)(hl:IsL H xs vs)(O:IsL H ys us)(rv:Vals vs its)(U:Vals us its')
  (ih:∀x∈xs,∀(e:D) (v u:V) (a b:o6),nD x=true->nD e=true->Is H x v->Is H e u->RelV v a->RelV u b->SeqAt.EqAt A s a b (eqN x e)):
  ∀j (a1:j<its.toArray.size) (a2:j<its'.toArray.size),SeqAt.EqAt A s its.toArray[j] its'.toArray[j] (eqN (xs.getD j .non) (ys.getD j .non)):=λj a1 a2=>by
 have l1:its.length=xs.length:=by rw [<-rv.length,hl.length]
 have l2:its'.length=ys.length:=by rw [<-U.length,O.length]
 have j1:j<xs.length:=by rw [<-l1];simpa using a1
 have j2:j<ys.length:=by rw [<-l2];simpa using a2
 obtain⟨v1,e1,i1⟩:=hl.get (i:=j) (d:=xs[j]) (by simp [j1])
 obtain⟨v2,e2,i2⟩:=O.get (i:=j) (d:=ys[j]) (by simp [j2])
 obtain⟨b1,f1,g1⟩:=rv.get e1;obtain⟨b2,f2,g2⟩:=U.get e2;have k1:its.toArray[j]=b1:=by
  have:=f1;rw [uf (by rw [l1];exact j1)] at this
  simpa using this
 have k2:its'.toArray[j]=b2:=by
  have:=f2;rw [uf (by rw [l2];exact j2)] at this
  simpa using this
 have d1:xs.getD j .non=xs[j]:=by simp [List.getD,j1]
 have d2:ys.getD j .non=ys[j]:=by simp [List.getD,j2]
 rw [k1,k2,d1,d2];exact ih _ (uT j1) _ _ _ _ _ (nL_get (j:=j) hd (by simp [j1])) (nL_get (j:=j) he (by simp [j2])) i1 i2 g1 g2
theorem eqAt_tupN (I:Inv X oq σ H s){xs:oj D}{e:D}{v u:V}{a b:o6}{A:oh}(hd:nD (.tup xs)=true)(he:nD e=true)(h1:Is H (.tup xs) v)(h2:Is H e u)(r1:RelV v a)(O:RelV u b)(hu:A.units<cLine)
  (ih:∀x∈xs,∀(e:D) (v u:V) (a b:o6),nD x=true->nD e=true->Is H x v->Is H e u->RelV v a->RelV u b->SeqAt.EqAt A.in1 s a b (eqN x e)):SeqAt.EqAt A s a b (eqN (.tup xs) e):=by
 obtain⟨p,vs,rfl,hp,hl⟩:=(show∃p vs,v=V.ref p/\H p=some (.tup vs)/\IsL H xs vs from h1)
 cases r1;obtain⟨its,rv,q,_⟩:=I.tuple (.inl (.of hp));cases e with
 |non=>
  cases(show u= .non from h2)
  cases O;exact SeqAt.EqAt.tuple_none q hu
 |str y=>
  obtain⟨rfl,_⟩:=(show u= .str y/\_ from h2)
  obtain⟨t2,rfl⟩:=O;exact SeqAt.EqAt.tuple_str _ _ q hu
 |int y=>
  cases(show u= .int y from h2)
  obtain⟨t2,rfl⟩:=O;exact SeqAt.EqAt.tuple_int _ _ q hu
 |tup ys=>
  by_cases hv:V.ref p=u
  ·have:=Is.detN (e:= .tup ys) hd he h1 (hv▸h2);subst hv;cases O;rw [<-this,(eqN_iff hd).mpr rfl];exact SeqAt.EqAt.same _
  ·obtain⟨p',us,rfl,ac,U⟩:=(show∃p' us,u=V.ref p'/\H p'=some (.tup us)/\IsL H ys us from h2)
   cases O;obtain⟨its',aa,q',_⟩:=I.tuple (.inl (.of ac));have l1:its.length=xs.length:=by rw [<-rv.length,hl.length]
   have l2:its'.length=ys.length:=by rw [<-aa.length,U.length]
   have ad:=UE (e:=λj=>eqN (xs.getD j .non) (ys.getD j .non)) q q' hu (parts_N (by simpa [nD] using hd) (by simpa [nD] using he) hl U rv aa ih)
   have e1:eqN (.tup xs) (.tup ys)=((List.range (min its.toArray.size its'.toArray.size)).all (λj=>eqN (xs.getD j .non) (ys.getD j .non))&&its.toArray.size==its'.toArray.size):=by
    rw [uj,uj,l1,l2,<-WS];simp only [eqN]
   rw [e1];exact SeqAt.EqAt.of_refs (λz=>hv (by rw [z])) ad
 |_=>simp [nD] at he
theorem eqAt_N (I:Inv X oq σ H s):∀(n:Nat) (d e:D) (v u:V) (a b:o6) (A:oh),dp d<=n->nD d=true->nD e=true->Is H d v->Is H e u->RelV v a->RelV u b->A.units+n<cLine->SeqAt.EqAt A s a b (eqN d e):=by
 intro n
 induction n with
 |zero=>
  intro d e v u a b A hn hd U h1 h2 r1 r2 hu;cases d with
  |non=>
   cases(show v= .non from h1)
   cases r1;exact eqAt_nonN I U h2 r2 hu
  |int z=>
   cases(show v= .int z from h1)
   obtain⟨t,rfl⟩:=r1;exact eqAt_intN I U h2 r2 hu
  |str z=>simp [dp] at hn
  |tup xs=>simp [dp] at hn
  |_=>simp [nD] at hd
 |succ n ih=>
  intro d e v u a b A hn hd U h1 h2 r1 r2 hu;have O:A.units<cLine:=Uu (UI _ _) hu;cases d with
  |non=>
   cases(show v= .non from h1)
   cases r1;exact eqAt_nonN I U h2 r2 O
  |int z=>
   cases(show v= .int z from h1)
   obtain⟨t,rfl⟩:=r1;exact eqAt_intN I U h2 r2 O
  |str z=>
   obtain⟨rfl,_⟩:=(show v= .str z/\_ from h1)
   obtain⟨t,rfl⟩:=r1;exact eqAt_strN I U h2 r2 O
  |tup xs=>
   have hm:dpL xs<=n:=by
    have:dp (.tup xs)=1+dpL xs:=by simp only [dp]
    omega
   exact eqAt_tupN I hd U h1 h2 r1 r2 O λx hx e v u a b k1 k2 k3 k4 k5 k6=>ih x e v u a b A.in1 ((zJ xs).mp hm x hx) k1 k2 k3 k4 k5 k6 (by rw [uP];omega)
  |_=>simp [nD] at hd
def rCmpN (g:Bool->Bool):R2:=λx y H Q=>∃ds es:oj D,Is H (.tup ds) x/\Is H (.tup es) y/\nL ds=true/\nL es=true/\dpL ds<=60/\Q (.bl (g (eqNL ds es))) H
theorem rc_N (I:Inv X oq σ H s){ds es:oj D}{x y:V}{v u:o6}(h1:Is H (.tup ds) x)(h2:Is H (.tup es) y)(hn:nL ds=true)(aa:nL es=true)(hd:dpL ds<=60)(rx:RelV x v)(ry:RelV y u)(hu:X.A.units+64<cLine):
  SeqAt.RcAt X.A s v u (eqNL ds es)/\SeqAt.RcNeAt X.A s v u (!eqNL ds es):=by
 obtain⟨p,vs,rfl,hp,hl⟩:=(show∃p vs,x=V.ref p/\H p=some (.tup vs)/\IsL H ds vs from h1)
 obtain⟨p',us,rfl,ac,O⟩:=(show∃p vs,y=V.ref p/\H p=some (.tup vs)/\IsL H es vs from h2)
 cases rx;cases ry;obtain⟨its,rv,q,_⟩:=I.tuple (.inl (.of hp));obtain⟨its',U,q',_⟩:=I.tuple (.inl (.of ac));have l1:its.length=ds.length:=by rw [<-rv.length,hl.length]
 have l2:its'.length=es.length:=by rw [<-U.length,O.length]
 have pe:=parts_N (A:=X.A.in1) hn aa hl O rv U λx hx e v u a b k1 k2 k3 k4 k5 k6=>eqAt_N I 60 x e v u a b X.A.in1 ((zJ ds).mp hd x hx) k1 k2 k3 k4 k5 k6 (by rw [uP];omega)
 have e1:=UE (e:=λj=>eqN (ds.getD j .non) (es.getD j .non)) q q' (by omega) pe
 have e2:=SeqAt.RcNeAt.tuples (e:=λj=>eqN (ds.getD j .non) (es.getD j .non)) q q' (by omega) pe
 rw [uj,uj,l1,l2,<-WS] at e1 e2;exact⟨e1,e2⟩
theorem op_neTN (U:X.A.units+64<cLine):OpR X (compareOp .NotEq) (rCmpN not):=by
 intro oq s σ H x y v u Q I rx ry h;obtain⟨ds,es,h1,h2,hn,O,hd,q⟩:=h;exact(rc_N I h1 h2 hn O hd rx ry U).2 X.prog X.w X.xe _ ⟨.bl _,H,I,1,q⟩
end
structure FF (K:o0)(mg:Str->om o6)(x:Str)(st:Stmt)(ps:oj Str)(f:o3)(fd:FuncData):Prop where
 F:Fun K x x st f fd
 b:J5 K fd ps []
 m:mg x=some (.ref f)
structure FM (K:o0)(C:o3)(x q:Str)(st:Stmt)(ps:oj Str)(f:o3)(fd:FuncData):Prop where
 F:Fun K x q st f fd
 b:J5 K fd ps []
 h:Meth K C x f
def FZ (K:o0)(x q:Str)(st:Stmt)(f:o3):Prop:=∃(oc kV dc pm cd ct:o6) (od an:om o3) (sl:Array (om o6)),K.lookup f=some ⟨oc,od,.func (PySem.W.fnOf x q (y8 st) (yA st) (qi st) .none kV dc pm an cd ct),sl⟩/\PySem.W.codeIn K cd q=true/\PySem.W.keepIn K (.ref f)=true
def FZg (K:o0)(x:Str)(st:Stmt)(f:o3):Prop:=PySem.W.nsIn K mainGlobals x=some (some (.ref f))/\FZ K x x st f
def FZm (K:o0)(C:o3)(x q:Str)(st:Stmt)(f:o3):Prop:=PySem.W.findIn K (.ref C) x=some (some (.ref f))/\PySem.W.isFn K (.ref f)=true/\FZ K x q st f
def BOk (x q:Str)(st:Stmt)(ps:oj Str):Prop:=∀(kV doc pm:o6) (an:om o3) (cdv ct:o6) (us:oj o6),us.length=ps.length->bindArgs (PySem.W.fnOf x q (y8 st) (yA st) (qi st) .none kV doc pm an cdv ct) ⟨us,[]⟩=pure (ps.zip us)
theorem Qh {K:o0}{h:o8}{mg:Str->om o6}(X:K.In h)(G:h.Ns mainGlobals mg){x:Str}{st:Stmt}{f:o3}(z:FZg K x st f)(ps:oj Str)(O:BOk x x st ps):∃fd,FF K mg x st ps f fd:=by
 obtain⟨a,oc,kV,dc,pm,U,ct,od,an,sl,l,c,k⟩:=z;have F:=fun_mk (st:=st) l c k;exact⟨_,F,F.binds O,uH X G a⟩
theorem yB {K:o0}{C:o3}{x q:Str}{st:Stmt}{f:o3}(z:FZm K C x q st f)(ps:oj Str)(O:BOk x q st ps):∃fd,FM K C x q st ps f fd:=by
 obtain⟨a,i,oc,kV,dc,pm,U,ct,od,an,sl,l,c,k⟩:=z;have F:=fun_mk (st:=st) l c k;exact⟨_,F,F.binds O,⟨a,i,k⟩⟩
theorem FF.law {K:o0}{mg:Str->om o6}{x:Str}{st:Stmt}{ps:oj Str}{f:o3}{fd:FuncData}(T:FF K mg x st ps f fd){y:Str}(h:∀(kV doc pm:o6) (an:om o3) (cdv ct u:o6),bindArgs (PySem.W.fnOf x x (y8 st) (yA st) (qi st) .none kV doc pm an cdv ct) ⟨[u],[]⟩=pure [(y,u)])(s:o7)(u:o6):BindsTo s fd ⟨[u],[]⟩ [(y,u)]:=by
 obtain⟨oc,od,kV,doc,pm,an,cdv,ct,osl,rfl,lk,O⟩:=T.F.ex;exact .of_eq (h kV doc pm an cdv ct u)
def txt? (u:o6):om Str:=match u with
 | .str z _=>some z
 |_=>none
def TZ (K:o0)(q:o3)(l:oj Str):Prop:=∃(d:om o3) (i:Array o6) (n:Nat) (sl:Array (om o6)),K.lookup q=some ⟨.type "tuple",d,.seq i n,sl⟩/\i.toList.map txt? =l.map some
theorem strs_of:∀{l:oj Str}{us:oj o6},us.map txt? =l.map some->Vals (l.map V.str) us
 | [],[],_=> .nil
 |z::l,u::us,h=>by
  rw [uq,uq] at h;injection h with h1 h2
  cases u with
  |str y t=>
   have:y=z:=uE h1;subst this;exact .cons ⟨t,1⟩ (strs_of h2)
  |_=>cases h1
 | [],_::_,h=>by simp at h
 |_::_,[],h=>by simp at h
theorem TZ.sq {K:o0}{H:Hp}{q:o3}{l:oj Str}(h:TZ K q l)(hz:l.length<=100):SqT K H q (l.map V.str):=by
 obtain⟨d,its,n,sl,U,e⟩:=h;have O:its.size=l.length:=by rw [<-uX];simpa using congrArg List.length e
 exact .inr ⟨_,its,n,U,1,1,by rw [O];exact UG (xL (by omega)),strs_of e⟩
def TZn (K:o0)(a:o3)(x:Str)(l:oj Str):Prop:=∃q,PySem.W.nsIn K a x=some (some (.ref q))/\TZ K q l
end L2
namespace L2
open PySem PyProof.Rows
theorem Qt {t u:TS}{D:Ends}{σ:St}{H:Hp}(h:∀N:St->Hp->Prop,(∀O H',u D O H'->N O H')->t {D with nx:=N} σ H):tSeq t u D σ H:=h (u D) λ_ _ h=>h
section
variable {X:Cx}{oq:oj (o3×Obj)}{σ:St}{H:Hp}{s:o7}{d:o3}
theorem Inv.redesc {u O:HO}(I:Inv X oq σ H s)(h:H d=some u)(n1:∀xs,u≠ .tup xs)(n2:∀y,u≠ .own y)(n3:∀ps,u≠ .tbl ps)(n4:∀o v,X.H₀ d≠some (.frz o v))(new:QJ X.prog X.w (upd H d O) s.heap d O):Inv X oq σ (upd H d O) s:=by
 have U:∀b,H b=none->upd H d O b=none:=λb e=>by rw [qh (λz=>by rw [z,h] at e;cases e)];exact e
 refine⟨I.ok,I.os,I.bare,⟨I.base.keep,I.base.slot,λb o q n hx=>U b (I.base.free b o q n hx),I.base.there,λb xs q=> ?_,λb o v q=> ?_,λb ps q=> ?_⟩,I.loc,I.cell,U _ I.free,λx c e=>U _ (I.freeC x c e),λp hp=> ?_,λb v e=> ?_,I.len,I.tk⟩
 ·have e:=I.base.tups b xs q;rw [qh (λz=>by rw [z,h] at e;exact n1 xs (uE e))]
  exact e
 ·have e:=I.base.frzs b o v q;rw [qh (λz=>n4 o v (by rw [<-z];exact q))]
  exact e
 ·obtain⟨more,e⟩:=I.base.tbls b ps q;exact⟨more,by rw [qh (λz=>by rw [z,h] at e;exact n3 _ (uE e))];exact e⟩
 ·obtain⟨h1,h2,h3,h4,h5⟩:=I.pin p hp;exact⟨h1,U _ h2,h3,h4,h5⟩
 ·by_cases c:b=d
  ·subst c;rw [qf] at e;cases e;exact new
  ·rw [qh c] at e;exact(I.hok b v e).stay (λ_ _ _ q=>q) (λc q=>by rw [qh (λz=>by rw [z,h] at q;exact n2 _ (uE q))];exact q) λc xs q=>by rw [qh (λz=>by rw [z,h] at q;exact n1 _ (uE q))];exact q
end
theorem Zn {xs:oj V}{us:oj o6}(r:Vals xs us):∀is:oj Nat,Vals (is.filterMap (xs[·]?)) (is.filterMap (us[·]?))
 | []=> .nil
 |i::is=>by
  rw [vD,vD];have O:=r.length;cases e:xs[i]? with
  |none=>
   have:us[i]? =none:=List.getElem?_eq_none (by have:=List.getElem?_eq_none_iff.mp e;omega)
   rw [this];exact Zn r is
  |some x=>
   obtain⟨u,e2,g⟩:=r.get e;rw [e2];exact .cons g (Zn r is)
section
variable {X:Cx}
def tStp (K:o0)(te:TE)(tl:TO):TE:=λσ H Q=>te σ H λx H1=>tl σ H1 λ_ H2=>∃a xs,x= .ref a/\SqL K H2 a xs/\∀ys p,ys.length<=xs.length->(∀y∈ys,y∈xs)->H2 p=none->Q (.ref p) (upd H2 p (.lst ys))
theorem pe_stepL {e:Expr}{te:TE}{lo:om Expr}{tl:TO}{k:Int}{j pos p1 p2}(hk:k≠0)(he:PE X e te)(hl:PO X lo tl)(U:subscripted (.Slice lo none (some (.Constant (.int k) j p1)) p2) false=λv u=>operate [v,u] (getItem v u)):PE X (.Subscript e (.Slice lo none (some (.Constant (.int k) j p1)) p2) pos) (tStp X.K te tl):=by
 intro oq s σ H Q I h;refine Subscript_ (thn (he oq s σ H _ I h) λv s1 ⟨x,H1,I1,r1,q1⟩=> ?_);refine wpAny_Slice (thn (hl oq s1 σ H1 _ I1 q1) λvl s2 ⟨lv,H2,I2,pl,q2⟩=> ?_);rw [evalPart_none];refine um ?_;rw [evalPart_some];refine thn (qk (i:=k) oq s2 σ H2 (λy H3=>y= .int k/\H3=H2) I2 ⟨1,1⟩) λu O h3=> ?_;obtain⟨y,H3,I3,r3,rfl,rfl⟩:=h3;obtain⟨tk,rfl⟩:=r3;obtain⟨a,xs,rfl,hH,q⟩:=q2;cases r1;have I4:Inv X oq σ H3 {O with heap:=O.heap.push {cls:= .type "slice",data:= .fields #[vl,.none,.int k tk]}}:=I3.kept (t':=O.toks) λb ob q=>ua _ q
 obtain⟨its,r,aa,hz⟩:=I4.list hH;have ac:its.toArray.size=xs.length:=by rw [uj];exact r.length.symm
 show wpAny (model X.prog X.w) X.A (subscriptTail e (.Slice lo none (some (.Constant (.int k) j p1)) p2) (.ref a) (.ref O.heap.objs.size)) (EP X oq σ Q) X.xe {O with heap:=O.heap.push {cls:= .type "slice",data:= .fields #[vl,.none,.int k tk]}}
 refine tail_any (ops:= [.ref a,.ref O.heap.objs.size]) aa.isList.typeIs slot_list_getitem.lookup ?_ (by rw [U])
 refine wpAny_getItem_list_slice (st:=some k) aa.isList (Heap.IsSliceOf.new ..) pl .none (.int k tk) (by simpa using hk) ?_ (by rw [ac];exact hz)
 have hsz:=slicePick_size_le its.toArray lv none (some k);unfold slicePick at hsz⊢;generalize sliceRange (sliceBounds lv none (some k) its.toArray.size).1 (sliceBounds lv none (some k) its.toArray.size).2.1 (sliceBounds lv none (some k) its.toArray.size).2.2=is at hsz⊢;have ep:is.filterMap (its.toArray[·]?)=is.filterMap (its[·]?):=by simp
 rw [ep] at hsz⊢;have vp:=Zn r is;have ad:(is.filterMap (xs[·]?)).length<=xs.length:=by
  rw [vp.length];rw [uj,uj,<-r.length] at hsz;exact hsz
 refine⟨.ref _,_,I4.laid (t':=O.toks) (o:= .lst (is.filterMap (xs[·]?))) (λb ob q=>ua _ q) (ug _) ⟨uQ ad hz,_,(0),vp,uz _ rfl⟩,1,q _ _ ad (λy hy=> ?_) (I4.hok.fresh (ug _))⟩;obtain⟨i,_,hi⟩:=List.mem_filterMap.mp hy;exact uS hi
end
end L2
namespace L2
open PySem PySem.Spec PyProof.Rows
theorem Wn:entryFor table "dict_itemiterator.__iter__"=some Builtin.«dict_keyiterator.__iter__»:=entryFor_alias (id':="dict_keyiterator.__iter__") (by kernel_rfl) rfl (by decide+kernel) (by kernel_rfl)
def Iti (d:o3)(o:Obj):It:=
 ⟨λi H=>∃kvs,H d=some (.frz o (.dK kvs))/\i<kvs.length,λi H v H'=>∃t p,v= .ref t/\H t=none/\H'=upd H t (.tup [kV p.1,p.2])/\∀kvs,H d=some (.frz o (.dK kvs))->kvs[i]? =some p,λi H=>∃kvs,H d=some (.frz o (.dK kvs))/\kvs.length<=i⟩
section
variable {X:Cx}
theorem turn_items {P:o9}{w:og}{K:o0}{ad:oj Expr}{cc:Nat}{tp:Pos}(d it:o3){o:Obj}{es:Array DictEntry}{ep:Nat}(hd:o.data= .dict es ep):Turn P w K (.Tuple ad cc tp) (Iti d o) [it] it (λi h=>∃ok ov,IsItemIter h it d i es.size ep ok ov) where
 mem:=by simp
 obj:=λi h st b hb=>by
  have e:b=it:=by simpa using hb
  subst e;obtain⟨ok,ov,e⟩:=st;exact⟨_,e,λv z=>by cases z⟩
 keep:=λi h h' st k=>by
  obtain⟨ok,ov,e⟩:=st;exact⟨ok,ov,k it (by simp) _ e⟩
 item:=by
  intro X hP hw hK U i oq s σ H E I hf st hg;subst hP hw hK;obtain⟨kvs,hq,hx⟩:=hg;obtain⟨lo,vs,r,aa,hl,_⟩:=Wb I.hok hq hd;have ak:=r.length;obtain⟨⟨k,v⟩,ae⟩:∃p,vs[i]? =some p:=⟨_,uf (by omega)⟩
  obtain⟨ok,ov,O⟩:=st;have l1:=uw O;have ek:kvs[i]? =some kvs[i]:=uf hx;have rp:=zZ r ek ae;refine wpAny_pyNext_items_item (by rw [hl];exact O) aa ae λal h' hk af ht hz ac=> ?_
  obtain⟨I1,ag⟩:=I.handed (t':=s.toks) (ys:= [kV kvs[i].1,kvs[i].2]) (its:= [al,v]) hf (λc U=>by
   have e:c=it:=by simpa using U
   subst e;exact l1) (.cons (by rw [rp.1];exact kV_rel hk) (.cons rp.2 .nil)) (by show 2<=sizeLine;decide) ht hz (λc o U e=>ac c o (by simpa using U) e)
  refine⟨0,wpAny_letOwnedTupleGo_items (s:={s with heap:=h'}) af λh2 z2 s2=> ?_⟩
  refine⟨.ref s.heap.objs.size,_,I1.turnedL (fp:= [it]) (h':=h2) (t':=s.toks) (λc o U e=>s2.extBut c o (by simpa using U) e) ag,1,⟨_,kvs[i],1,I.fresh,1,λam ah=> ?_⟩,⟨_,_,by rw [<-hl];exact z2⟩,λc U=>(ag c U).1⟩
  rw [hq] at ah;cases ah;exact ek
 done:=by
  intro X hP hw hK U i oq s σ H E I hf st hg;subst hP hw hK;obtain⟨kvs,hq,hx⟩:=hg;obtain⟨lo,vs,r,aa,hl,_⟩:=Wb I.hok hq hd;have ak:=r.length;obtain⟨ok,ov,O⟩:=st;obtain⟨f0,f1,f2,f3,f4,f5⟩:=hf it (by simp)
  exact wpAny_pyNext_items_end (I.ok.hd U) (by rw [hl];exact O) aa (List.getElem?_eq_none (by omega)) λh' eb=>⟨1,I.turned (t':=s.toks) (λb o hb e=>eb b o hb e) f0 f1 f3 f4 f5⟩
 self:=λA i s Q E st h=>by
  obtain⟨ok,ov,O⟩:=st;refine wpAny_pyIter_slot ⟨_,O,1⟩ PySem.F.slot_dict_itemiterator_iter (vA PySem.F.slot_dict_itemiterator_iter ⟨_,O,1⟩ Wn ?_ (PySem.F.args_dict_itemiterator_iter_1 _));show wpAny _ _ (ret (.ref _)) _ _ s;exact um ⟨0,"dict_itemiterator",_,⟨_,O,1⟩,PySem.F.slot_dict_itemiterator_next.lookup,h⟩
def iItmF (tl:TE):TI:=λσ H R=>tl σ H λx H1=>∃d o kvs,x= .ref d/\H1 d=some (.frz o (.dK kvs))/\R (Iti d o) H1
theorem pi_itmF {ac:oj Expr}{cc:Nat}{tp apos cpos:Pos}{l:Expr}{tl:TE}(hl:PE X l tl)(O:attributeBase l "items" X.env (eval l X.env)=eval l X.env)(U:(apos.endLine==cpos.line)=true):PI X (.Tuple ac cc tp) (.Call (.Attribute l "items" apos) [] [] cpos) (iItmF tl):=by
 intro oq s σ H R I h;refine eval_items hl I O U h ?_;rintro s1 H1 x I1 ⟨d,o,kvs,rfl,hq,q⟩;refine⟨d,kvs,1,.inr ⟨o,hq⟩,?_⟩;obtain⟨ho,_,lo,vs,r,o',es,ep,ad,c1,c2,_⟩:=(show QJ X.prog X.w H1 s1.heap d (.frz o (.dK kvs)) from I1.hok d _ hq)
 rw [ho] at ad;cases ad;obtain⟨lo,vs,r,ae,hl,_⟩:=Wb I1.hok hq c2;have aa:(s1.heap.push {cls:= .type "dict_items",data:= .fields #[.ref d]}).IsItemsView s1.heap.objs.size d:=⟨_,uz _ rfl,1,1⟩;refine wpAny_pyIter_items aa (ae.push _) ?_;have I2:Inv X oq σ H1 {s1 with heap:=s1.heap.push {cls:= .type "dict_items",data:= .fields #[.ref d]}}:=I1.kept (t':=s1.toks) λb o e=>ua _ e
 refine⟨_,[_],_,_,H1,1,I2.kept (t':=s1.toks) λb o e=>ua _ e,turn_items d _ c2,⟨_,_,by rw [<-hl];exact uz _ rfl⟩,λb hb=> ?_,q⟩
 have e:=List.mem_singleton.mp hb;subst e;exact I2.fpOk (ug _) (I2.hok.fresh (ug _))
end
section
variable {X:Cx}{oq:oj (o3×Obj)}{σ:St}{H:Hp}{s:o7}{d:o3}
theorem Inv.holdK {kvs:oj (Key×V)}(I:Inv X oq σ H s)(h:H d=some (.dK kvs)):(∀o v,X.H₀ d≠some (.frz o v))/\∃o,Inv X oq σ (upd H d (.frz o (.dK kvs))) s:=by
 have O:∀o v,X.H₀ d≠some (.frz o v):=λo v z=>by have:=I.base.frzs d o v z;rw [h] at this;cases this
 obtain⟨U,lo,vs,r,dd⟩:=dk_of I.hok h;obtain⟨o,es,ep,ho,rr⟩:=id dd;exact⟨O,o,I.redesc h (λ_ z=>by cases z) (λ_ z=>by cases z) (λ_ z=>by cases z) O ⟨ho,wW U lo r dd⟩⟩
theorem Inv.letK {kvs:oj (Key×V)}{o:Obj}(I:Inv X oq σ H s)(O:∀o v,X.H₀ d≠some (.frz o v))(h:H d=some (.frz o (.dK kvs))):Inv X oq σ (upd H d (.dK kvs)) s:=by
 obtain⟨U,lo,vs,r,dd⟩:=zo I.hok (.inr ⟨o,h⟩);exact I.redesc h (λ_ z=>by cases z) (λ_ z=>by cases z) (λ_ z=>by cases z) O (wW U lo r dd)
def tFrzK (t:TE):TE:=λσ H Q=>t σ H Q∨∃d kvs,H d=some (.dK kvs)/\∀o,t σ (upd H d (.frz o (.dK kvs))) λv H'=>H' d=some (.frz o (.dK kvs))/\Q v (upd H' d (.dK kvs))
theorem pe_frzK {e:Expr}{t:TE}(h:PE X e t):PE X e (tFrzK t):=by
 intro oq s σ H Q I q;rcases q with q|⟨d,kvs,hd,q⟩
 ·exact h oq s σ H Q I q
 ·obtain⟨O,o,U⟩:=I.holdK hd;exact thn (h oq s σ _ _ U (q o)) λv s1 ⟨x,H1,I2,r1,e1,q1⟩=>⟨x,_,I2.letK O e1,r1,q1⟩
theorem tuple_byD {prog:o9}{w:og}{A:oh}{E:o6->o7->Prop}{r:o3}{Q:o6->o7->Prop}{G:oj o6->o7->Prop}(aa:s.TypeIs (.ref r) "dict")
  (U:∀(R:oj o6->o7->Prop) (E':o6->o7->Prop),(∀vs s',G vs s'->R vs s')->wpAny (model prog w) A.in1.in1 (collect (.ref r)) R E' s)
  (hQ:∀vs s',G vs s'->vs.length<=sizeLine/\Q (.ref s'.heap.objs.size) {s' with heap:=s'.heap.push {cls:= .type "tuple",data:= .seq vs.toArray}}):
  wpAny (model prog w) A (call (.type "tuple") [.ref r]) Q E s:=by
 have new:codeAny (model prog w) A.in1 (.call (.builtin "tuple.__new__") ⟨[.type "tuple",.ref r],[]⟩) (wants (λobj O=>O.TypeIs obj "tuple"/\Q obj O) E) s:=by
  refine codeAny_of_tree ?_;show wpAny _ A.in1.in1 (do checkBuiltinCall "tuple.__new__" ⟨[.type "tuple",.ref r],[]⟩;again (.builtin "tuple.__new__" ⟨[.type "tuple",.ref r],[]⟩)) _ _ s
  refine wpAny_bind (wpAny_of_eq (PySem.F.newCall_tuple_1 _) (um ⟨plainId_quiet PySem.F.plain_tuple_new _,codeAny_builtin PySem.F.entry_tuple_new ?_⟩));rw [Around.under_plainId PySem.F.plain_tuple_new _];have s1:=sub_tuple_self;have s2:=init_tuple_lookup;have s3:=madeHere_tuple
  wp_walk using wpAny_typeOf aa,U
  intro vs s' hg;obtain⟨hl,hq⟩:=hQ vs s' hg;show wpAny _ _ (Builtin.Tuple.tupleExact vs.toArray>>=λv=>ret v) _ _ _;unfold Builtin.Tuple.tupleExact;refine wpAny_bind (vd ?_ (by show vs.toArray.size<=sizeLine;simpa using hl))
  exact um ⟨⟨_,uz _ rfl,1⟩,hq⟩
 refine callType_codes (Q₁:=λobj O=>O.TypeIs obj "tuple"/\Q obj O) PySem.F.called_tuple (PySem.F.typeCall_tuple_1 _) PySem.F.entry_object_init new λobj O h₁=> ?_;exact⟨h₁.1,PySem.F.args_object_init_2 obj _,object_init_meets PySem.F.called_tuple.init.lookup PySem.F.called_tuple.made (by decide) prog w A.in1 _ O ⟨h₁.1,1,h₁.2⟩⟩
end
section
variable {X:Cx}
theorem call_tupleD (hc:X.calm=true):y6 X (.type "tuple") (λxs H Q=>∃(d:o3) (kvs:oj (Key×V)),xs= [.ref d]/\Rd H d (.dK kvs)/\∀t,H t=none->Q (.ref t) (upd H t (.tup (kvs.map λp=>kV p.1)))):=by
 intro oq s σ H xs us Q I r h;obtain⟨d,kvs,rfl,hd,q⟩:=h;obtain⟨u,rfl,ru⟩:=JZ r;cases ru;obtain⟨hz,lo,vs,aa,dd⟩:=zo I.hok hd;obtain⟨o,es,ep,ho⟩:=id dd;have ad:s.heap.DictAt (Qd X.prog X.w) d vs ep:=⟨o,es,ho⟩;refine uN (n:=1) I.tk ?_;refine tuple_byD (G:=λus s'=>∃(h':o8) (tk:Nat) (O:Array o6),us=O.toList/\s'={s with heap:=h',toks:=tk}/\(∀b o,s.heap.get? b=some o->h'.get? b=some o)/\ItemsOf (λi v=>∃k x,vs[i]? =some (k,x)/\(Qd X.prog X.w).is k v=true) O vs.length) dd.typeIs
  (λR E' k=>PySem.W.kdu_collect (A:=X.A.in1.in1) (PySem.W.kdl_dict lo) (I.ok.hd hc) ad (by rw [<-aa.length];exact hz) λh' tk O ac U=>k _ _ ⟨h',tk,O,1,1,ac,U⟩) ?_
 rintro us s' ⟨h',tk,O,rfl,rfl,ac,U⟩;have ae:O.toList.length=vs.length:=by rw [uX,U.1]
 have af:=aa.length;refine⟨by omega,λhtk=> ?_⟩
 have I':Inv X oq σ H {s with heap:=h',toks:=tk}:=I.kept ac htk
 have hv:Vals (kvs.map λp=>kV p.1) O.toList:=by
  refine Wo (by rw [u9];omega) λj x v hx hv=> ?_
  rw [uF] at hx;cases hj:kvs[j]? with
  |none=>rw [hj] at hx;cases hx
  |some p=>
   rw [hj] at hx;cases hx;obtain⟨k,y,e1,e2⟩:=U.2 j v (by rw [<-Array.getElem?_toList];exact hv)
   have e3:=(zZ aa hj e1).1;show RelV (kV p.1) v;rw [e3];exact kV_rel e2
 refine⟨.ref h'.objs.size,_,I'.laid (t':=tk) (o:= .tup (kvs.map λp=>kV p.1)) (λb u w=>ua _ w) (ug _) ⟨by rw [u9];exact hz,O.toList,hv,⟨_,uz _ rfl,1,0⟩⟩ htk,1,q _ (I'.hok.fresh (ug _))⟩
end
section
variable {x q:Str}{st:Stmt}{a b c d:Str}
theorem bo1 (h:∀(kV doc pm:o6) (an:om o3) (cdv ct u:o6),bindArgs (PySem.W.fnOf x q (y8 st) (yA st) (qi st) .none kV doc pm an cdv ct) ⟨[u],[]⟩=pure [(a,u)]):BOk x q st [a]:=by
 intro k1 k2 k3 U k5 k6 us O;rcases us with _|⟨u,_|⟨_,_⟩⟩
 ·cases O
 ·exact h k1 k2 k3 U k5 k6 u
 ·cases O
theorem bo2 (h:∀(kV doc pm:o6) (an:om o3) (cdv ct u v:o6),bindArgs (PySem.W.fnOf x q (y8 st) (yA st) (qi st) .none kV doc pm an cdv ct) ⟨[u,v],[]⟩=pure [(a,u),(b,v)]):BOk x q st [a,b]:=by
 intro k1 k2 k3 U k5 k6 us O;rcases us with _|⟨u,_|⟨v,_|⟨_,_⟩⟩⟩
 ·cases O
 ·cases O
 ·exact h k1 k2 k3 U k5 k6 u v
 ·cases O
theorem bo3 (h:∀(kV doc pm:o6) (an:om o3) (cdv ct u v w:o6),bindArgs (PySem.W.fnOf x q (y8 st) (yA st) (qi st) .none kV doc pm an cdv ct) ⟨[u,v,w],[]⟩=pure [(a,u),(b,v),(c,w)]):BOk x q st [a,b,c]:=by
 intro k1 k2 k3 U k5 k6 us O;rcases us with _|⟨u,_|⟨v,_|⟨w,_|⟨_,_⟩⟩⟩⟩
 ·cases O
 ·cases O
 ·cases O
 ·exact h k1 k2 k3 U k5 k6 u v w
 ·cases O
theorem bo4 (h:∀(kV doc pm:o6) (an:om o3) (cdv ct u v w z:o6),bindArgs (PySem.W.fnOf x q (y8 st) (yA st) (qi st) .none kV doc pm an cdv ct) ⟨[u,v,w,z],[]⟩=pure [(a,u),(b,v),(c,w),(d,z)]):BOk x q st [a,b,c,d]:=by
 intro k1 k2 k3 U k5 k6 us O;rcases us with _|⟨u,_|⟨v,_|⟨w,_|⟨z,_|⟨_,_⟩⟩⟩⟩⟩
 ·cases O
 ·cases O
 ·cases O
 ·cases O
 ·exact h k1 k2 k3 U k5 k6 u v w z
 ·cases O
end
end L2
namespace K40
open PySem L2 PyProof.Rows
open Builtin.Int (intBits)
def top (i:Nat):Stmt:=PySem.Challenge.pw_askwright_k40_papers_of_names.main.body.getD i (.Pass ⟨(0),(0),(0),(0)⟩)
abbrev ZI:Stmt:=top 17
abbrev xg:Stmt:=top 18
abbrev zH:Stmt:=top 19
abbrev Zp:Stmt:=top 21
abbrev yr:Stmt:=top 22
abbrev JC:Stmt:=top 23
abbrev Zg:Stmt:=top 29
abbrev JB:Stmt:=top 30
abbrev zt:Stmt:=top 31
abbrev js:Stmt:=top 32
abbrev J1:Stmt:=top 33
abbrev Xi:Stmt:=top 34
abbrev zT:Stmt:=top 35
abbrev JR:Stmt:=top 38
abbrev JW:Stmt:=top 39
abbrev JI:Stmt:=top 40
abbrev Xv:Stmt:=top 41
abbrev Xc:Stmt:=top 42
abbrev J0:Stmt:=top 43
abbrev jO:Stmt:=top 44
abbrev xb:Stmt:=top 45
abbrev JM:Stmt:=top 46
abbrev XD:Stmt:=top 47
abbrev JQ:Stmt:=top 48
abbrev Yb:Stmt:=top 50
abbrev yQ:Stmt:=top 51
abbrev Yy:Stmt:=Qa (top 52) 0
abbrev YS:Stmt:=Qa (top 52) 1
abbrev yP:Stmt:=Qa (top 52) 2
abbrev Yg:Stmt:=Qa (top 52) 3
abbrev Yc:Stmt:=Qa (top 52) 6
abbrev QV:Stmt:=Qa (top 52) 7
abbrev yN:Stmt:=Qa (top 52) 8
abbrev Yv:Stmt:=Qa (top 52) 9
abbrev jw:Stmt:=Qa (top 54) 0
abbrev YU:Stmt:=Qa (top 54) 1
abbrev jl:Stmt:=Qa (top 54) 2
abbrev YB:Stmt:=Qa (top 54) 3
abbrev jE:Stmt:=Qa (top 54) 4
abbrev jH:Stmt:=Qa (top 54) 5
abbrev yt:Stmt:=Qa (top 55) 0
abbrev QF:Stmt:=Qa (top 55) 1
abbrev QD:Stmt:=Qa (top 55) 2
abbrev yi:Stmt:=Qa (top 55) 3
abbrev Q8:Stmt:=Qa (top 55) 4
abbrev Q4:Stmt:=Qa (top 55) 5
abbrev yl:Stmt:=Qa (top 55) 6
abbrev yd:Stmt:=Qa (top 55) 7
abbrev QE:Stmt:=Qa (top 55) 8
abbrev yM:Stmt:=top 56
abbrev JH:Stmt:=top 57
abbrev ju:Stmt:=top 58
abbrev YZ:Stmt:=top 59
abbrev jI:Stmt:=top 60
abbrev jJ:Stmt:=top 61
abbrev XE:Stmt:=top 62
abbrev WJ:Stmt:=top 63
abbrev Je:Stmt:=top 65
abbrev J4:Stmt:=top 68
abbrev yC:Stmt:=Qa (top 69) 0
abbrev YM:Stmt:=Qa (top 69) 1
abbrev Q7:Stmt:=Qa (top 69) 2
abbrev QH:Stmt:=Qa (top 69) 3
abbrev YV:Stmt:=top 70
abbrev YT:Stmt:=top 72
abbrev Zq:Stmt:=top 73
abbrev Xo:Stmt:=top 74
abbrev XA:Stmt:=top 75
abbrev Jd:Stmt:=top 76
abbrev Jb:Stmt:=top 77
abbrev xf:Stmt:=top 78
abbrev Jf:Stmt:=top 79
abbrev jp:Stmt:=top 80
abbrev YX:Stmt:=top 81
abbrev Y0:Stmt:=top 82
abbrev s_law:Stmt:=top 83
set_option genInjectivity false in
set_option genSizeOf false in
structure Ad where
 f_is_text:o3
 d_is_text:FuncData
 f_is_tree:o3
 d_is_tree:FuncData
 f_is_name:o3
 d_is_name:FuncData
 f_is_pair:o3
 d_is_pair:FuncData
 YE:o3
 YK:FuncData
 ZN:o3
 ZV:FuncData
 f_part_of:o3
 d_part_of:FuncData
 Ze:o3
 zP:FuncData
 f_row_of:o3
 d_row_of:FuncData
 XL:o3
 zd:FuncData
 Zr:o3
 Zo:FuncData
 wM:o3
 wD:FuncData
 f_is_rule:o3
 d_is_rule:FuncData
 JK:o3
 zL:FuncData
 JY:o3
 zV:FuncData
 J2:o3
 Zd:FuncData
 Xq:o3
 wX:FuncData
 XB:o3
 w9:FuncData
 JF:o3
 Zi:FuncData
 jW:o3
 XS:FuncData
 JN:o3
 Zt:FuncData
 JE:o3
 zK:FuncData
 Xw:o3
 wU:FuncData
 JD:o3
 Zj:FuncData
 jx:o3
 jr:FuncData
 jf:o3
 Y6:FuncData
 Yw:o3
 Jp:FuncData
 xF:o3
 xw:FuncData
 jd:o3
 Y7:FuncData
 jo:o3
 jG:FuncData
 jA:o3
 jF:FuncData
 yS:o3
 yU:FuncData
 jc:o3
 Y9:FuncData
 Jo:o3
 Jr:FuncData
 jZ:o3
 X2:FuncData
 xu:o3
 xO:FuncData
 XH:o3
 XY:FuncData
 Ju:o3
 Jv:FuncData
 ze:o3
 X5:FuncData
 X8:o3
 XM:FuncData
 yx:o3
 YF:FuncData
 yk:o3
 yf:FuncData
 yn:o3
 ym:FuncData
 Yp:o3
 Yr:FuncData
 y9:o3
 Yk:FuncData
 Yh:o3
 y7:FuncData
 Yt:o3
 Ys:FuncData
 Yq:o3
 Ym:FuncData
 yp:o3
 yj:FuncData
 ja:o3
 Y8:FuncData
 ZC:o3
 Zl:FuncData
 X1:o3
 XW:FuncData
 xT:o3
 xV:FuncData
 X4:o3
 XX:FuncData
 X6:o3
 XR:FuncData
 wV:o3
 wT:FuncData
 f_met_by:o3
 d_met_by:FuncData
 wv:o3
 wN:FuncData
 ZX:o3
 zR:FuncData
 YA:o3
 Jq:FuncData
 Xa:o3
 Xl:FuncData
 Yj:o3
 Yd:FuncData
 y2:o3
 Ye:FuncData
 x8:o3
 xy:FuncData
 xQ:o3
 xG:FuncData
 f_law_pot:o3
 d_law_pot:FuncData
 w8:o3
 wG:FuncData
 We:o3
 Wc:FuncData
 wL:o3
 wC:FuncData
 wq:o3
 wf:FuncData
 ZU:o3
 ZQ:FuncData
 wR:o3
 wA:FuncData
 X7:o3
 XZ:FuncData
 xn:o3
 x6:FuncData
 xY:o3
 xl:FuncData
 f_law:o3
 d_law:FuncData
 ql:o3
 qu:o3
 qo:o3
 qH:o3
structure Tx (K:o0)(mg:Str->om o6)(a:Ad):Prop where
 g_is_text:FF K mg "is_text" ZI ["value"] a.f_is_text a.d_is_text
 g_is_tree:FF K mg "is_tree" xg ["value"] a.f_is_tree a.d_is_tree
 g_is_name:FF K mg "is_name" zH ["value"] a.f_is_name a.d_is_name
 g_is_pair:FF K mg "is_pair" Zp ["value"] a.f_is_pair a.d_is_pair
 g_is_row_of_names:FF K mg "is_row_of_names" yr ["tree"] a.YE a.YK
 g_is_answer:FF K mg "is_answer" JC ["ask","answer"] a.ZN a.ZV
 g_part_of:FF K mg "part_of" Zg ["kind","piece","count"] a.f_part_of a.d_part_of
 g_pieces_of:FF K mg "pieces_of" JB ["line","form"] a.Ze a.zP
 g_row_of:FF K mg "row_of" zt ["line","count"] a.f_row_of a.d_row_of
 g_read_lines:FF K mg "read_lines" js ["value"] a.XL a.zd
 g_rule_rows:FF K mg "rule_rows" J1 ["tree"] a.Zr a.Zo
 g_bad_line:FF K mg "bad_line" Xi ["tree"] a.wM a.wD
 g_is_rule:FF K mg "is_rule" zT ["value"] a.f_is_rule a.d_is_rule
 g_text_made:FF K mg "text_made" JR ["boxes","own","parts"] a.JK a.zL
 g_self_made:FF K mg "self_made" JW ["boxes","own","parts"] a.JY a.zV
 g_copy_made:FF K mg "copy_made" JI ["boxes","own","parts"] a.J2 a.Zd
 g_row_made:FF K mg "row_made" Xv ["boxes","own","parts"] a.Xq a.wX
 g_put_made:FF K mg "put_made" Xc ["boxes","own","parts"] a.XB a.w9
 g_join_made:FF K mg "join_made" J0 ["boxes","own","parts"] a.JF a.Zi
 g_first_made:FF K mg "first_made" jO ["boxes","own","parts"] a.jW a.XS
 g_rest_made:FF K mg "rest_made" xb ["boxes","own","parts"] a.JN a.Zt
 g_size_made:FF K mg "size_made" JM ["boxes","own","parts"] a.JE a.zK
 g_cut_made:FF K mg "cut_made" XD ["boxes","own","parts"] a.Xw a.wU
 g_glue_made:FF K mg "glue_made" JQ ["boxes","own","parts"] a.JD a.Zj
 g_is_jump_taken:FF K mg "is_jump_taken" Yb ["boxes","word","parts"] a.jx a.jr
 g_asked_or_fault:FF K mg "asked_or_fault" yQ ["word","held"] a.jf a.Y6
 g_Machine_init:FM K a.ql "__init__" "Machine.__init__" Yy ["self","rule","own"] a.Yw a.Jp
 g_Machine_now:FM K a.ql "now" "Machine.now" YS ["self"] a.xF a.xw
 g_Machine_answer:FM K a.ql "answer" "Machine.answer" yP ["self","tree"] a.jd a.Y7
 g_Machine_asked:FM K a.ql "asked" "Machine.asked" Yg ["self"] a.jo a.jG
 g_Machine_go_on:FM K a.ql "go_on" "Machine.go_on" Yc ["self"] a.jA a.jF
 g_Machine_is_waiting:FM K a.ql "is_waiting" "Machine.is_waiting" QV ["self"] a.yS a.yU
 g_Machine_do_row:FM K a.ql "do_row" "Machine.do_row" yN ["self","row"] a.jc a.Y9
 g_Machine_hold:FM K a.ql "hold" "Machine.hold" Yv ["self","box","tree"] a.Jo a.Jr
 g_Going_init:FM K a.qu "__init__" "Going.__init__" jw ["self","name","source","order"] a.jZ a.X2
 g_Going_begin:FM K a.qu "begin" "Going.begin" YU ["self","rule"] a.xu a.xO
 g_Going_look:FM K a.qu "look" "Going.look" jl ["self"] a.XH a.XY
 g_Going_wanted:FM K a.qu "wanted" "Going.wanted" YB ["self"] a.Ju a.Jv
 g_Going_take:FM K a.qu "take" "Going.take" jE ["self","answer"] a.ze a.X5
 g_Going_full:FM K a.qu "full" "Going.full" jH ["self"] a.X8 a.XM
 g_PlainOrder_init:FM K a.qo "__init__" "PlainOrder.__init__" yt ["self","project"] a.yx a.YF
 g_PlainOrder_begin_anew:FM K a.qo "begin_anew" "PlainOrder.begin_anew" QF ["self","project"] a.yk a.yf
 g_PlainOrder_go_through:FM K a.qo "go_through" "PlainOrder.go_through" QD ["self","name"] a.yn a.ym
 g_PlainOrder_enter:FM K a.qo "enter" "PlainOrder.enter" yi ["self","name"] a.Yp a.Yr
 g_PlainOrder_settle:FM K a.qo "settle" "PlainOrder.settle" Q8 ["self","going"] a.y9 a.Yk
 g_PlainOrder_runner:FM K a.qo "runner" "PlainOrder.runner" Q4 ["self","rule","own"] a.Yh a.y7
 g_PlainOrder_leave:FM K a.qo "leave" "PlainOrder.leave" yl ["self","going"] a.Yt a.Ys
 g_PlainOrder_go_on:FM K a.qo "go_on" "PlainOrder.go_on" yd ["self","going"] a.Yq a.Ym
 g_PlainOrder_answer_yet:FM K a.qo "answer_yet" "PlainOrder.answer_yet" QE ["self","name"] a.yp a.yj
 g_answer_at_once:FF K mg "answer_at_once" yM ["source"] a.ja a.Y8
 g_answer_by:FF K mg "answer_by" JH ["end"] a.ZC a.Zl
 g_check_name:FF K mg "check_name" ju ["name"] a.X1 a.XW
 g_check_names:FF K mg "check_names" YZ ["names"] a.xT a.xV
 g_order_from:FF K mg "order_from" jI ["project","name"] a.X4 a.XX
 g_order_over:FF K mg "order_over" jJ ["project","names"] a.X6 a.XR
 g_full_run:FF K mg "full_run" XE ["project","name"] a.wV a.wT
 g_met_by:FF K mg "met_by" WJ ["project","name"] a.f_met_by a.d_met_by
 g_paper_of:FF K mg "paper_of" Je ["project","name"] a.wv a.wN
 g_is_source:FF K mg "is_source" J4 ["value"] a.ZX a.zR
 g_Project_init:FM K a.qH "__init__" "Project.__init__" yC ["self","sources"] a.YA a.Jq
 g_Project_sources:FM K a.qH "sources" "Project.sources" YM ["self"] a.Xa a.Xl
 g_Project_source_of:FM K a.qH "source_of" "Project.source_of" Q7 ["self","name"] a.Yj a.Yd
 g_Project_looked_up:FM K a.qH "looked_up" "Project.looked_up" QH ["self","ask"] a.y2 a.Ye
 g_longest_row:FF K mg "longest_row" YV ["names"] a.x8 a.xy
 g_law_cell_at:FF K mg "_law_cell_at" YT ["script","k"] a.xQ a.xG
 g_law_pot:FF K mg "_law_pot" Zq ["cell","salt"] a.f_law_pot a.d_law_pot
 g_law_take:FF K mg "_law_take" Xo ["pot","many"] a.w8 a.wG
 g_law_word:FF K mg "_law_word" XA ["pot","names"] a.We a.Wc
 g_law_line:FF K mg "_law_line" Jd ["pot","names","many","k"] a.wL a.wC
 g_law_rule:FF K mg "_law_rule" Jb ["pot","names"] a.wq a.wf
 g_law_maker:FF K mg "_law_maker" xf ["pot","names"] a.ZU a.ZQ
 g_law_leaf:FF K mg "_law_leaf" Jf ["pot","names"] a.wR a.wA
 g_law_source:FF K mg "_law_source" jp ["pot","names"] a.X7 a.XZ
 g_law_sources:FF K mg "_law_sources" YX ["script"] a.xn a.x6
 g_law_refused:FF K mg "_law_refused" Y0 ["project","text"] a.xY a.xl
 g_law:FF K mg "law" s_law ["script"] a.f_law a.d_law
 qp:Cls K a.ql
 M_Machine:Mk K a.ql a.Yw
 m_Machine:mg "Machine"=some (.ref a.ql)
 yE:Qx K a.ql "rows"
 wb:Qx K a.ql "rule"
 xk:Qx K a.ql "own"
 Qn:Qx K a.ql "boxes"
 Qc:Qx K a.ql "place"
 Q0:Qx K a.ql "done"
 Ya:Qx K a.ql "given"
 qD:Qx K a.ql "there"
 qK:Cls K a.qu
 M_Going:Mk K a.qu a.jZ
 m_Going:mg "Going"=some (.ref a.qu)
 yH:Qx K a.qu "name"
 xp:Qx K a.qu "order"
 yg:Qx K a.qu "made_by"
 yu:Qx K a.qu "rule_asks"
 qN:Qx K a.qu "rule_run"
 QP:Qx K a.qu "end"
 qv:Cls K a.qo
 M_PlainOrder:Mk K a.qo a.yx
 m_PlainOrder:mg "PlainOrder"=some (.ref a.qo)
 qV:Qx K a.qo "given_project"
 Qv:Qx K a.qo "stack"
 Qo:Qx K a.qo "under_way"
 qP:Qx K a.qo "full_runs"
 Qu:Qx K a.qo "found"
 yK:Cls K a.qH
 M_Project:Mk K a.qH a.YA
 m_Project:mg "Project"=some (.ref a.qH)
 QT:Qx K a.qH "by_name"
 m_MOST_SIGNS:∃t,mg "MOST_SIGNS"=some (.int 300 t)
 m_MOST_PARTS:∃t,mg "MOST_PARTS"=some (.int 40 t)
 m_MOST_SIZE:∃t,mg "MOST_SIZE"=some (.int 600 t)
 m_MOST_DEPTH:∃t,mg "MOST_DEPTH"=some (.int 12 t)
 Xm:∃t,mg "MOST_NAME_SIGNS"=some (.int 24 t)
 m_LETTERS:∃t,mg "LETTERS"=some (.str "abcdefghijklmnopqrstuvwxyz" t)
 m_NAME_SIGNS:∃t,mg "NAME_SIGNS"=some (.str "abcdefghijklmnopqrstuvwxyz0123456789./" t)
 m_PERCENT:∃t,mg "PERCENT"=some (.int 37 t)
 m_MOST_LINES:∃t,mg "MOST_LINES"=some (.int 40 t)
 m_MOST_DONE:∃t,mg "MOST_DONE"=some (.int 300 t)
 m_MOST_NAMES:∃t,mg "MOST_NAMES"=some (.int 60 t)
 z_ord:mg "ord"=none
 Yl:mg "len"=none
 qE:mg "isinstance"=none
 zh:mg "str"=none
 Qz:mg "tuple"=none
 z_all:mg "all"=none
 z_int:mg "int"=none
 Xn:mg "range"=none
 z_zip:mg "zip"=none
 z_dict:mg "dict"=none
 z_sorted:mg "sorted"=none
 z_abs:mg "abs"=none
 z_min:mg "min"=none
 z_sum:mg "sum"=none
 z_ValueError:mg "ValueError"=none
theorem wE:qt ["value","sign"] ["value"] (qi ZI):=by trivial
theorem yc:qt ["value","size","waiting","pair","part","depth"] ["value"] (qi xg):=by trivial
theorem sc_is_name:qt ["value"] ["value"] (qi zH):=by trivial
theorem sc_is_pair:qt ["value"] ["value"] (qi Zp):=by trivial
theorem xJ:qt ["tree"] ["tree"] (qi yr):=by trivial
theorem sc_is_answer:qt ["ask","answer"] ["ask","answer"] (qi JC):=by trivial
theorem wz:qt ["kind","piece","count","numbers"] ["kind","piece","count"] (qi Zg):=by trivial
theorem sc_pieces_of:qt ["line","form"] ["line","form"] (qi JB):=by trivial
theorem jM:qt ["line","count","word","form","pieces","parts"] ["line","count"] (qi zt):=by trivial
theorem yX:qt ["value","rows","line","row"] ["value"] (qi js):=by trivial
theorem XT:qt ["tree","read"] ["tree"] (qi J1):=by trivial
theorem sc_bad_line:qt ["tree"] ["tree"] (qi Xi):=by trivial
theorem sc_is_rule:qt ["value"] ["value"] (qi zT):=by trivial
theorem sc_text_made:qt ["boxes","own","parts"] ["boxes","own","parts"] (qi JR):=by trivial
theorem sc_self_made:qt ["boxes","own","parts"] ["boxes","own","parts"] (qi JW):=by trivial
theorem sc_copy_made:qt ["boxes","own","parts"] ["boxes","own","parts"] (qi JI):=by trivial
theorem sc_row_made:qt ["boxes","own","parts"] ["boxes","own","parts"] (qi Xv):=by trivial
theorem Zz:qt ["boxes","own","parts","row"] ["boxes","own","parts"] (qi Xc):=by trivial
theorem jk:qt ["boxes","own","parts","one","other"] ["boxes","own","parts"] (qi J0):=by trivial
theorem xR:qt ["boxes","own","parts","whole"] ["boxes","own","parts"] (qi jO):=by trivial
theorem XU:qt ["boxes","own","parts","whole"] ["boxes","own","parts"] (qi xb):=by trivial
theorem sc_size_made:qt ["boxes","own","parts"] ["boxes","own","parts"] (qi JM):=by trivial
theorem JL:qt ["boxes","own","parts","whole","between"] ["boxes","own","parts"] (qi XD):=by trivial
theorem jQ:qt ["boxes","own","parts","row","between"] ["boxes","own","parts"] (qi JQ):=by trivial
theorem zk:qt ["boxes","word","parts"] ["boxes","word","parts"] (qi Yb):=by trivial
theorem Xd:qt ["word","held"] ["word","held"] (qi yQ):=by trivial
theorem zC:qt ["self","rule","own"] ["self","rule","own"] (qi Yy):=by trivial
theorem Z3:qt ["self"] ["self"] (qi YS):=by trivial
theorem YI:qt ["self","tree","ask"] ["self","tree"] (qi yP):=by trivial
theorem zl:qt ["self"] ["self"] (qi Yg):=by trivial
theorem zg:qt ["self"] ["self"] (qi Yc):=by trivial
theorem jX:qt ["self"] ["self"] (qi QV):=by trivial
theorem yw:qt ["self","row","word","parts"] ["self","row"] (qi yN):=by trivial
theorem zE:qt ["self","box","tree"] ["self","box","tree"] (qi Yv):=by trivial
theorem W2:qt ["self","name","source","order"] ["self","name","source","order"] (qi jw):=by trivial
theorem Z1:qt ["self","rule"] ["self","rule"] (qi YU):=by trivial
theorem WQ:qt ["self"] ["self"] (qi jl):=by trivial
theorem ZE:qt ["self"] ["self"] (qi YB):=by trivial
theorem WR:qt ["self","answer"] ["self","answer"] (qi jE):=by trivial
theorem xS:qt ["self","asks"] ["self"] (qi jH):=by trivial
theorem xH:qt ["self","project"] ["self","project"] (qi yt):=by trivial
theorem YL:qt ["self","project"] ["self","project"] (qi QF):=by trivial
theorem QB:qt ["self","name","top","missing"] ["self","name"] (qi QD):=by trivial
theorem J3:qt ["self","name"] ["self","name"] (qi yi):=by trivial
theorem Ji:qt ["self","going"] ["self","going"] (qi Q8):=by trivial
theorem Jk:qt ["self","rule","own"] ["self","rule","own"] (qi Q4):=by trivial
theorem JG:qt ["self","going"] ["self","going"] (qi yl):=by trivial
theorem ya:qt ["self","going","ask","answer"] ["self","going"] (qi yd):=by trivial
theorem yb:qt ["self","name","at_once"] ["self","name"] (qi QE):=by trivial
theorem Xu:qt ["source"] ["source"] (qi yM):=by trivial
theorem sc_answer_by:qt ["end"] ["end"] (qi JH):=by trivial
theorem Wh:qt ["name"] ["name"] (qi ju):=by trivial
theorem Js:qt ["names","name"] ["names"] (qi YZ):=by trivial
theorem WE:qt ["project","name"] ["project","name"] (qi jI):=by trivial
theorem Y4:qt ["project","names","order","name"] ["project","names"] (qi jJ):=by trivial
theorem ZP:qt ["project","name","order"] ["project","name"] (qi XE):=by trivial
theorem sc_met_by:qt ["project","name"] ["project","name"] (qi WJ):=by trivial
theorem zX:qt ["project","name","full_runs"] ["project","name"] (qi Je):=by trivial
theorem sc_is_source:qt ["value"] ["value"] (qi J4):=by trivial
theorem yh:qt ["self","sources","by_name","name","source"] ["self","sources"] (qi yC):=by trivial
theorem Jh:qt ["self","name"] ["self","name"] (qi Q7):=by trivial
theorem Jl:qt ["self","ask"] ["self","ask"] (qi QH):=by trivial
theorem yF:qt ["names","row","name"] ["names"] (qi YV):=by trivial
theorem wc:qt ["script","k"] ["script","k"] (qi YT):=by trivial
theorem yZ:qt ["cell","salt","step","big","k"] ["cell","salt"] (qi Zq):=by trivial
theorem Zx:qt ["pot","many","digit"] ["pot","many"] (qi Xo):=by trivial
theorem Zk:qt ["pot","names","some"] ["pot","names"] (qi XA):=by trivial
theorem Q6:qt ["pot","names","many","k","words","word","one","two","three","at"] ["pot","names","many","k"] (qi Jd):=by trivial
theorem Y2:qt ["pot","names","body","many","lines"] ["pot","names"] (qi Jb):=by trivial
theorem Yu:qt ["pot","names","asked","lines"] ["pot","names"] (qi xf):=by trivial
theorem Za:qt ["pot","names","kind"] ["pot","names"] (qi Jf):=by trivial
theorem xo:qt ["pot","names","kind"] ["pot","names"] (qi jp):=by trivial
theorem QX:qt ["script","names","pairs","k","cell"] ["script"] (qi YX):=by trivial
theorem Q1:qt ["project","text","found","e"] ["project","text"] (qi Y0):=by trivial
theorem xU:qt ["script","pairs","project","name","due","found","source","text"] ["script"] (qi s_law):=by trivial
structure Ga where
 (boxes asking forms makers br bn na ba we xBadThing xNoThing:o3)
def NOMK:oj Str:= ["ask","has","names","go","like","rowed","none","say","fault"]
structure Fx (K:o0)(w:og)(mg:Str->om o6)(g:Ga)(a:Ad):Prop where
 m_BOXES:mg "BOXES"=some (.ref g.boxes)
 m_ASKING:mg "ASKING"=some (.ref g.asking)
 m_FORMS:mg "FORMS"=some (.ref g.forms)
 m_MAKERS:mg "MAKERS"=some (.ref g.makers)
 boxes:∀H,SqT K H g.boxes (BX.map V.str)
 asking:∀H,SqT K H g.asking [.str "ask",.str "has",.str "names"]
 kd:KDict K w g.forms
 forms:∀x∈FRM,∃q,PySem.W.nsIn K g.forms x.1=some (some (.ref q))/\∀H,SqT K H q (x.2.map λk=>V.str k.t)
 km:KDict K w g.makers
 k_text:PySem.W.nsIn K g.makers "text"=some (some (.ref a.JK))
 k_self:PySem.W.nsIn K g.makers "self"=some (some (.ref a.JY))
 k_copy:PySem.W.nsIn K g.makers "copy"=some (some (.ref a.J2))
 k_row:PySem.W.nsIn K g.makers "row"=some (some (.ref a.Xq))
 k_put:PySem.W.nsIn K g.makers "put"=some (some (.ref a.XB))
 k_join:PySem.W.nsIn K g.makers "join"=some (some (.ref a.JF))
 k_first:PySem.W.nsIn K g.makers "first"=some (some (.ref a.jW))
 k_rest:PySem.W.nsIn K g.makers "rest"=some (some (.ref a.JN))
 k_size:PySem.W.nsIn K g.makers "size"=some (some (.ref a.JE))
 k_cut:PySem.W.nsIn K g.makers "cut"=some (some (.ref a.Xw))
 k_glue:PySem.W.nsIn K g.makers "glue"=some (some (.ref a.JD))
 k_no:∀z∈NOMK,PySem.W.nsIn K g.makers z=some none
 none_:∀z,Jz z=none->PySem.W.nsIn K g.forms z=some none
 m_BadRule:mg "BadRule"=some (.ref g.br)
 x_BadRule:PySem.W.excIn K g.br VE "ValueError.__new__"=true
 ZR:mg "BadName"=some (.ref g.bn)
 x_BadName:PySem.W.excIn K g.bn VE "ValueError.__new__"=true
 m_NoAsk:mg "NoAsk"=some (.ref g.na)
 x_NoAsk:PySem.W.excIn K g.na VE "ValueError.__new__"=true
 m_BadAnswer:mg "BadAnswer"=some (.ref g.ba)
 x_BadAnswer:PySem.W.excIn K g.ba VE "ValueError.__new__"=true
 WA:mg "WrightError"=some (.ref g.we)
 m_BadThing:mg "BadThing"=some (.ref g.xBadThing)
 m_NoThing:mg "NoThing"=some (.ref g.xNoThing)
 ew:PySem.W.exmOne K (.ref g.bn) (.ref g.we)=some true
 xc:AwV.Jm K g.bn
 ve:PySem.W.kitOne K (.ref g.bn) (.type "ValueError")=some true
 ot:PySem.W.kitAny K (.ref g.bn) [.ref g.ba,.ref g.br,.ref g.xBadThing,.ref g.xNoThing]=some false
theorem yq {n:Nat}(h:n<=1000):n<=sizeLine:=UG (xL h)
theorem sml {n:Nat}(h:Nat.ble n 1000=true):n<=sizeLine:=yq (Nat.le_of_ble_eq_true h)
theorem fits {n:Nat}(h:n<=16000000):n<=sizeLine:=by rw [uA];omega
theorem Xx {α:Type}{xs:oj α}{i:Int}{c:α}(h:atI xs i=some c):c∈xs:=by
 unfold atI at h;obtain⟨j,_,e⟩:=Option.bind_eq_some_iff.mp h;exact uS e
end K40
namespace K40
open PySem L2 PyProof.Rows
theorem okText_long {z:Str}(h:300<z.length):Qq z=false:=by
 unfold Qq;rw [ue (by omega)]
 rfl
def isTx:D->Bool
 | .str z=>Qq z
 |_=>false
def sp_is_text:Sp:=λvs H Q _=>∃v d,vs= [v]/\Is H d v/\Q (.bl (isTx d)) H
def sp_is_tree:Sp:=λvs H Q _=>∃v d,vs= [v]/\Is H d v/\∀H',Same H H'->Q (.bl (isT d)) H'
def pr (p:D×Nat):D:= .tup [p.1,.int (p.2:Int)]
theorem okText_bad {z:Str}{i c:Nat}(h:z.cps[i]? =some c)(O:Qs c=false):Qq z=false:=by
 unfold Qq;have hm:c∈z.cps.toList:=by
  have:z.cps.toList[i]? =some c:=by simpa using h
  exact uS this
 have:z.cps.toList.all Qs=false:=by
  rw [List.all_eq_false];exact⟨c,hm,by rw [O];exact u8⟩
 rw [this,Bool.and_false]
section
variable {P:o9}{w:og}{K:o0}{mg:Str->om o6}{base:o8}{a:Ad}
theorem wI (T:Tx K mg a):FnOk P w K mg base CX0 1 a.f_is_text a.d_is_text ["value"] sp_is_text:=by
 refine T.g_is_text.F.ok wE () (λ_ _ _ _ H _ Q E hr h=> ?_)
 obtain⟨v,d,rfl,hv,k⟩:=h;refine⟨_,#[qc,5,@qI _ _ _ _ _ _ _ _ #[Zm,7,#[Qp,4,#[Qe,3,#[qy,9,#[qM,2,rfl],_,T.qE,uK,#[qb,5,pv 0,#[qb,5,#[QN,2,.ty "str",2,_,T.zh,Uy,rfl,_,_],qd,_],_],_,_,_,_],_]],#[xh,4,#[qr,8,op_gt,#[qy,9,zc,_,T.Yl,uJ,#[qb,5,pv 0,qd,_],_,_,_,_],#[Wl,4,_,T.m_MOST_SIGNS,_],qz _]]].pt #[qe,3,#[qq,4,YR]] qw,#[qc,5,#[jv,8,v6,rfl,#[pi_str,4,pv 0],#[qO,2,(1),1,wE.nd,rfl,Or.inl rfl,_],#[qe,3,@qI _ _ _ _ _ _ _ _ #[Zm,7,#[qr,8,op_lt_str,pv 1,qm,qz _],#[Zm,7,#[qr,8,op_gt_str,pv 1,qm,qz _],#[xh,4,#[qr,8,QM,#[qy,9,call_ord,_,T.z_ord,boot_ord,#[qb,5,pv 1,qd,_],_,_,_,_],#[Wl,4,_,T.m_PERCENT,_],qz _]]]].pt #[qe,3,#[qq,4,YR]] qw],_],#[qe,3,#[qq,4,YR]]]],?_⟩
 try dsimp only [cxOf,Cx.nox]
 refine⟨0,v,"str",tyD d,isStr d,1,hv.ty,YN d,0,?_⟩;cases d with
 |str z=>
  obtain⟨rfl,hz⟩:=hv;refine iteF ?_;refine⟨0,z,1,hz,_,0,1,0,?_⟩;refine ite2 (λc=> ?_) (λc=> ?_)
  ·have c':(300:Int)<(z.length:Int):=uh c;have e:isTx (.str z)=false:=okText_long (by omega)
   rw [e] at k;exact k
  ·have c':¬(300:Int)<(z.length:Int):=λq=>c (uc q);refine⟨0,z,1,?_⟩
   let J1_:Nat->L2.St->Hp->Prop:=λi σ H'=>(∃x,σ= [some (.str z),x])/\H'=H/\(z.cps.toList.take i).all Qs=true
   refine for_str J1_ ⟨⟨0⟩,1,1⟩ ?_ ?_
   ·rintro i c σ H' hc ⟨⟨x,rfl⟩,rfl,O⟩;have U:Qs c=false->Q (.bl false) H':=λe=>by
     have e':isTx (.str z)=false:=okText_bad hc e;rw [e'] at k;exact k
    refine⟨0,_,0,1,0,?_⟩;rw [show decide ((⟨#[c]⟩:Str).cps.toList<(" ":Str).cps.toList)=decide (c<32) from lt_one c 32]
    refine ite2 (λc1=> ?_) (λc1=> ?_)
    ·refine iteT (U ?_);have:=uh c1;unfold Qs;rw [ue (by omega)]
     rfl
    ·have ac:¬c<32:=λq=>c1 (uc q);refine⟨0,_,0,1,0,?_⟩;rw [show decide (("~":Str).cps.toList<(⟨#[c]⟩:Str).cps.toList)=decide (126<c) from one_gt c 126]
     refine ite2 (λc2=> ?_) (λc2=> ?_)
     ·refine iteT (U ?_);have:=uh c2;unfold Qs;rw [ue (p:=c<=126) (by omega),Bool.and_false]
      rfl
     ·have ad:¬126<c:=λq=>c2 (uc q);refine⟨0,0,1,1,0,?_⟩;refine ite2 (λc3=> ?_) (λc3=> ?_)
      ·have aa:c=37:=by
        have:=uh c3;have:=V.int.inj this;exact Int.ofNat.inj this
       exact U (by subst aa;rfl)
      ·have aa:c≠37:=λq=>c3 (uc (by rw [q];rfl))
       refine⟨⟨0⟩,1,?_⟩;rw [vv,show z.cps.toList[i]? =some c by simpa using hc,Uv,O]
       show(true&&(Qs c&&true))=true;unfold Qs;rw [uc (by omega),uc (p:=c<=126) (by omega),uc aa]
       rfl
   ·rintro σ H' ⟨⟨x,rfl⟩,rfl,O⟩;have e:isTx (.str z)=true:=by
     show Qq z=true;unfold Qq;rw [v9 (by simp)] at O
     rw [O,uc (by omega)]
     rfl
    rw [e] at k;exact k
 |_=>exact iteT (iteT k)
theorem map_snoc {α β:Type}(f:α->β)(xs:oj α)(x:α):(xs++ [x]).map f=xs.map f++ [f x]:=by simp
theorem last_at {α:Type}(us:oj α)(x:α):(us++ [x])[(us++ [x]).length-1]? =some x:=by simp
theorem drop_last {α:Type}(us:oj α)(x:α):(us++ [x]).dropLast=us:=by simp
def Wt (v:V)(d:D)(H:Hp)(L:o3)(m:Nat)(σ:L2.St)(H':Hp):Prop:=
 ∃(n:Nat) (w:oj (D×Nat)) (ws:oj V) (x3 x4 x5:om V),σ= [some v,some (.int n),some (.ref L),x3,x4,x5]/\Same H H'/\H' L=some (.lst ws)/\IsL H' (w.map pr) ws/\G w n=isT d/\n<=600/\w.length<=1+40*n/\m=ndL (w.map (·.1))
theorem YJ (T:Tx K mg a):FnOk P w K mg base CX0 2 a.f_is_tree a.d_is_tree ["value"] sp_is_tree:=by
 have Zs:=wI (P:=P) (w:=w) (base:=base) T;refine T.g_is_tree.F.ok yc () (λ_ _ _ _ H vs Q E hr h=> ?_)
 obtain⟨v,d,rfl,hv,k⟩:=h;refine⟨_,#[qc,5,#[qC,2,(1),4,yc.nd,rfl,Or.inl rfl,qk,_,_],#[qc,5,#[qC,2,(2),4,yc.nd,rfl,Or.inl rfl,#[QO,4,#[qb,5,#[qF,5,#[qb,5,pv 0,#[qb,5,qk,qd,_],_]],qd,_]],_,_],#[qc,5,#[zB,6,v6,#[pt_truth,3,pv 2,(λ_=>rfl)],#[qc,5,#[qC,2,(3),4,yc.nd,rfl,Or.inl rfl,#[pe_bm0,9,uY,PySem.F.slot_list_pop,PySem.F.type_list_pop,mt_pop,pv 2,_,_],_,_],#[qc,5,#[qC,2,(4),4,yc.nd,rfl,Or.inl rfl,#[qL,7,qJ,pv 3,qk,(λ_ _=>rfl)],_,_],#[qc,5,#[qC,2,(5),4,yc.nd,rfl,Or.inr rfl,#[qL,7,qJ,pv 3,qk,(λ_ _=>rfl)],_,_],#[qc,5,@qI _ _ _ _ _ _ _ _ #[pw_and,7,#[Qe,3,#[qy,9,#[qM,2,rfl],_,T.qE,uK,#[qb,5,pv 4,#[qb,5,#[QN,2,.ty "tuple",2,_,T.Qz,vf,rfl,_,_],qd,_],_],_,_,_,_],_],#[pw_and1,4,#[qr,8,op_le,#[qy,9,W5,_,T.Yl,uJ,#[qb,5,pv 4,qd,_],_,_,_,_],#[Wl,4,_,T.m_MOST_PARTS,_],qz _]]].pt #[qc,5,#[ps_aug,2,(1),6,yc.nd,rfl,Or.inl rfl,qk,ip_add,_],#[qe,3,#[qU,4,#[jU,12,uY,PySem.F.slot_list_extend,PySem.F.type_list_extend,mt_extend,pv 2,#[qb,5,#[JX,2,["below","depth"],(1),[5],9,lcsN (qi xg) ["value","size","waiting","pair","part","depth"],rfl,#[zS,4,pv 4],(λ_ _ _ _ _ _=>#[qO,2,(0),1,(show List.Nodup (["below","depth"]:oj Str) by decide+kernel),rfl,Or.inl rfl,_]),(λ_ _ _ _ _ _=> @Q5 _),(λ_ _ _ _ _ _=>#[qF,5,#[qb,5,pv 0,#[qb,5,#[qZ,8,yR,pv 1,qk],qd,_],_]]),_],qd,_],_,_,_,_,_],_]]] #[qe,3,#[qI,8,#[Qe,3,#[qx,16,Zs,hr.mono (),_,T.g_is_text.m,T.g_is_text.F.kp,T.g_is_text.b,.nil,qB,#[qb,5,pv 4,qd,_],_,_,_],_],#[qe,3,#[ps_aug,2,(1),6,yc.nd,rfl,Or.inl rfl,#[qZ,8,yR,qk,#[qy,9,W5,_,T.Yl,uJ,#[qb,5,pv 4,qd,_],_,_,_,_]],ip_add,_]],#[qe,3,#[qq,4,YR]]]],#[qe,3,@qI _ _ _ _ _ _ _ _ #[Zm,7,#[qr,8,op_gt,pv 5,#[Wl,4,_,T.m_MOST_DEPTH,_],qz _],#[xh,4,#[qr,8,op_gt,pv 1,#[Wl,4,_,T.m_MOST_SIZE,_],qz _]]].pt #[qe,3,#[qq,4,YR]] qw]]]]]],#[qe,3,#[qq,4,YR]]]]],?_⟩
 try dsimp only [cxOf,Cx.nox]
 have no:∀{H':Hp}{w:oj (D×Nat)}{n:Nat},Same H H'->G w n=isT d->G w n=false->Q (.bl false) H':=λ{H' w n} sm e1 e2=>by
  have q:=k H' sm;rw [<-e1,e2] at q;exact q
 refine⟨0,(sml rfl),λt1 h1=>⟨(sml rfl),λL hL=> ?_⟩⟩;have s1:Same H (upd H t1 (.tup [v,.int 1])):=qg h1 _;have s2:Same H (upd (upd H t1 (.tup [v,.int 1])) L (.lst [.ref t1])):=s1.trans (qg hL _);have ao:H L=none:=s1.free hL;have i1:Is (upd H t1 (.tup [v,.int 1])) (pr (d,1)) (.ref t1):=Is.new (ds:= [d,.int 1]) ⟨v,0,hv,_,0,1,1⟩ h1;refine⟨Wt v d H L,⟨_,(0),[(d,1)],[.ref t1],none,none,none,1,s2,qf,IsL.one (i1.mono (qg hL _).tk),G_start d,by omega,by simp,1⟩,?_⟩
 rintro m σ H' ⟨n,w,ws,x3,x4,x5,rfl,sm,hl,hw,hG,hn,aw,rfl⟩;refine⟨0,!ws.isEmpty,.inl ⟨ws,SqL.of hl,1⟩,?_⟩;rcases List.eq_nil_or_concat w with rfl|⟨w',⟨e,j⟩,rfl⟩
 ·cases(show ws= [] from hw)
  refine iteF ?_;have q:=k H' sm;rw [<-hG,G_nil hn] at q;exact q
 ·rw [List.concat_eq_append] at*;rw [map_snoc] at hw;obtain⟨us,x,rfl,hu,hx⟩:=hw.unsnoc;have ne:(!(us++ [x]).isEmpty)=true:=by simp
  rw [ne];refine iteT ⟨λσ' ax=>∃m',m'<ndL ((w'++ [(e,j)]).map (·.1))/\Wt v d H L m' σ' ax,λ_ _ h=>h,?_⟩;have hm:ndL ((w'++ [(e,j)]).map (·.1))=ndL (w'.map (·.1))+nd e:=by
   rw [map_snoc,Xf];simp [ndL]
  have aA:w'.length<=40*n:=by
   rw [uD,vK] at aw;omega
  have lu:=hu.length;rw [u9] at lu;refine⟨0,.inl ⟨1,_,SqL.of hl⟩,L,_,x,1,1,hl,last_at us x,?_⟩;rw [drop_last];have t2:Tk H' (upd H' L (.lst us)):=Tk.updL hl;have U:Same H (upd H' L (.lst us)):=λb o z=>by rw [qh (qj z ao)];exact sm b o z
  have ah:Is (upd H' L (.lst us)) (.tup [e,.int (j:Int)]) x:=hx.mono t2;have ak:IsL (upd H' L (.lst us)) (w'.map pr) us:=hu.mono t2;have aa:upd H' L (.lst us) L=some (.lst us):=qf;generalize upd H' L (.lst us)=H2 at t2 U ah ak aa⊢;clear t2 hl hx hu sm;refine⟨0,JO (i:=0) ah rfl λy hy=> ?_⟩;refine⟨0,JO (i:=1) ah rfl λy1 ay=> ?_⟩;cases(show y1= .int (j:Int) from ay)
  have ag:∀(n':Nat) (w2:oj (D×Nat)) (ad:oj V) (O:Hp),Same H O->O L=some (.lst ad)->IsL O (w2.map pr) ad->(j<=12->n'<=600->G w2 n'=isT d)->(12<j∨600<n'->isT d=false)->w2.length<=1+40*n'->ndL (w2.map (·.1))<ndL ((w'++ [(e,j)]).map (·.1))->
    ∃ae,[some v,some (V.int (n':Int)),some (V.ref L),some x,some y,some (V.int (j:Int))][5]? =some (some ae)/\∃i ac,ae=V.int i/\V.int 12=V.int ac/\∃k,V.bl (decide (ac<i))=V.bl k/\
     if k=true then if true=true then Q (.bl false) O else∃m',m'<ndL ((w'++ [(e,j)]).map (·.1))/\Wt v d H L m' [some v,some (V.int (n':Int)),some (V.ref L),some x,some y,some (V.int (j:Int))] O
     else∃ap,[some v,some (V.int (n':Int)),some (V.ref L),some x,some y,some (V.int (j:Int))][1]? =some (some ap)/\∃i ac,ap=V.int i/\V.int 600=V.int ac/\∃k,V.bl (decide (ac<i))=V.bl k/\
      if k=true then Q (.bl false) O else∃m',m'<ndL ((w'++ [(e,j)]).map (·.1))/\Wt v d H L m' [some v,some (V.int (n':Int)),some (V.ref L),some x,some y,some (V.int (j:Int))] O:=by
   intro n' w2 ad O s3 l3 i3 g3 b3 aq m3;have au:isT d=false->Q (.bl false) O:=λe=>by
    have q:=k O s3;rw [e] at q;exact q
   refine⟨0,_,0,1,0,?_⟩;refine ite2 (λc=>iteT (au (b3 (.inl ?_)))) (λc=>⟨0,_,0,1,0,?_⟩)
   ·have:=uh c;omega
   ·have c':¬(12:Int)<(j:Int):=λq=>c (uc q);refine ite2 (λc2=>au (b3 (.inr ?_))) (λc2=> ?_)
    ·have:=uh c2;omega
    ·have aB:¬(600:Int)<(n':Int):=λq=>c2 (uc q);exact⟨_,m3,n',w2,ad,_,_,0,s3,l3,i3,g3 (by omega) (by omega),by omega,aq,1⟩
  refine⟨0,y,"tuple",tyD e,xN e,1,hy.ty,jL e,0,?_⟩;cases e with
  |tup xs=>
   refine iteT ?_;obtain⟨a0,vs,rfl,af,al⟩:=hy;have lv:=al.length;refine⟨0,_,vs.length,1,.inr ⟨vs,SqT.of af,1⟩,_,0,1,0,?_⟩;refine ite2 (λc=> ?_) (λc=> ?_)
   ·have c':(vs.length:Int)<=40:=uh c;refine⟨0,_,0,1,?_⟩;refine⟨0,.inl ⟨1,_,SqL.of aa⟩,0,a0,vs,1,SqT.of af,λaC A0 am=> ?_⟩;refine WV (tl:= [some (.int (j:Int))]) (λd0=> .tup [d0,.int ((j+1:Nat):Int)]) af al (fits (by omega)) am (λd0 x0 O R _ s3 i3 r=> ?_) λO ys s3 l3 i3=> ?_
    ·refine⟨0,0,_,0,1,(sml rfl),λp hp=> ?_⟩;exact r _ _ (qg hp _) (Is.new (ds:= [d0,.int ((j+1:Nat):Int)]) ⟨x0,0,i3,_,0,1,1⟩ hp)
    ·have ly:=i3.length;rw [u9] at ly;have eA:A0≠L:=λz=>by rw [z,aa] at am;cases am
     refine⟨L,A0,us,ys,1,1,s3 _ _ aa,l3,fits (by omega),?_⟩
     have t4:Tk O (upd O L (.lst (us++ys))):=Tk.updL (s3 _ _ aa);have em:(w'++xs.map λd0=>(d0,j+1)).map pr=w'.map pr++xs.map λd0=> .tup [d0,.int ((j+1:Nat):Int)]:=by
      rw [uu,uG];rfl
     have ef:(w'++xs.map λd0=>(d0,j+1)).map (·.1)=w'.map (·.1)++xs:=by
      rw [uu,uG]
      congr 1
      exact List.map_id xs
     refine ag (n+1) (w'++xs.map λd0=>(d0,j+1)) (us++ys) _ (λb o z=>by rw [qh (qj z ao)];exact s3 b o (U b o z)) qf (by rw [em];exact((ak.mono s3.tk).mono t4).append (i3.mono t4)) (λh1 h2=> ?_) (λh=> ?_) ?_ ?_
     ·rw [<-hG,G_tup (by omega) h1]
     ·rw [<-hG];rcases h with h|h
      ·exact G_deep h
      ·exact G_big1 h
     ·rw [uD,u9];omega
     ·rw [ef,hm,Xf];simp only [nd];omega
   ·have c':¬(vs.length:Int)<=40:=λq=>c (uc q);refine⟨0,_,.tup xs,1,(show Is _ (.tup xs) (.ref a0) from⟨a0,vs,1,af,al⟩),0,?_⟩
    refine iteF ?_;refine no U hG (G_bad ?_);simp only [good];rw [ue (by omega)]
    rfl
  |str z=>
   refine iteF ?_;obtain⟨rfl,hz⟩:=hy;refine⟨0,_,.str z,1,⟨1,hz⟩,0,?_⟩;cases ht:Qq z with
   |false=>
    have e1:isTx (.str z)=false:=ht;rw [e1];refine iteF ?_;refine no U hG (G_bad ?_);simp only [good];exact ht
   |true=>
    have e1:isTx (.str z)=true:=ht;rw [e1];refine iteT ?_;refine⟨0,0,_,z.length,1,⟨hz,1⟩,_,0,1,_,0,1,?_⟩;have en:(n:Int)+(1+(z.length:Int))=((n+(1+z.length):Nat):Int):=by omega
    show∃ae,[some v,some (V.int ((n:Int)+(1+(z.length:Int)))),some (V.ref L),some x,some (V.str z),some (V.int (j:Int))][5]? =some (some ae)/\_;rw [en];refine ag (n+(1+z.length)) w' us _ U aa ak (λh1 h2=> ?_) (λh=> ?_) (by omega) (by rw [hm];simp only [nd];omega)
    ·rw [<-hG,G_str ht h1]
    ·rw [<-hG];rcases h with h|h
     ·exact G_deep h
     ·refine G_big ?_;simp only [sz];omega
  |_=>
   refine iteF ?_;refine⟨0,_,0,hy,0,?_⟩;exact iteF (no U hG (G_bad rfl))
def LET:Str:="abcdefghijklmnopqrstuvwxyz"
def NSG:Str:="abcdefghijklmnopqrstuvwxyz0123456789./"
noncomputable def nm (z:Str):Bool:=decide (1<=(z.length:Int))&&decide ((z.length:Int)<=24)&&inS ⟨#[z.cps.getD 0 0]⟩ LET&&(z.cps.toList.map λc=>inS ⟨#[c]⟩ NSG).all id
def isNm:D->Bool
 | .str z=>nm z
 |_=>false
def sp_name:Sp:=λvs H Q _=>∃v d,vs= [v]/\Is H d v/\∀H',Same H H'->Q (.bl (isNm d)) H'
theorem first_at {z:Str}(h:1<=z.length):atI z.cps.toList 0=some (z.cps.getD 0 0):=by
 have h':0<z.cps.size:=h;have q:z.cps.toList[0]? =some (z.cps.getD 0 0):=by simp [Array.getD,h']
 exact QW q
theorem allMap (z:Str):(z.cps.toList.map λc=>V.bl (inS ⟨#[c]⟩ NSG))=(z.cps.toList.map λc=>inS ⟨#[c]⟩ NSG).map V.bl:=by
 rw [uG]
 rfl
theorem nm_len {z:Str}(h:¬(1<=(z.length:Int)/\(z.length:Int)<=24)):nm z=false:=by
 unfold nm;by_cases h1:1<=(z.length:Int)
 ·have h2:¬(z.length:Int)<=24:=λq=>h ⟨h1,q⟩;rw [ue h2];simp
 ·rw [ue h1];simp
theorem nm_first {z:Str}(h:inS ⟨#[z.cps.getD 0 0]⟩ LET=false):nm z=false:=by
 unfold nm;rw [h];simp
theorem nm_rest {z:Str}(h1:1<=(z.length:Int))(h2:(z.length:Int)<=24)(h:inS ⟨#[z.cps.getD 0 0]⟩ LET=true):nm z=(z.cps.toList.map λc=>inS ⟨#[c]⟩ NSG).all id:=by
 unfold nm;rw [h,uc h1,uc h2];simp
theorem Xg (T:Tx K mg a):FnOk P w K mg base CX0 1 a.f_is_name a.d_is_name ["value"] sp_name:=by
 refine T.g_is_name.F.ok sc_is_name () (λ_ _ _ _ H _ Q E hr h=> ?_)
 obtain⟨x,d,rfl,hv,k⟩:=h;refine⟨_,#[qc,5,@qI _ _ _ _ _ _ _ _ #[Zm,7,#[Qp,4,#[Qe,3,#[qy,9,#[qM,2,rfl],_,T.qE,uK,#[qb,5,pv 0,#[qb,5,#[QN,2,.ty "str",2,_,T.zh,Uy,rfl,_,_],qd,_],_],_,_,_,_],_]],#[xh,4,#[Qp,4,#[pt_chain,12,op_le,op_le,qk,#[qy,9,zc,_,T.Yl,uJ,#[qb,5,pv 0,qd,_],_,_,_,_],#[Wl,4,_,T.Xm,_],_]]]].pt #[qe,3,#[qq,4,YR]] qw,#[qc,5,#[qI,8,#[qr,8,op_notIn_str,#[qL,7,ix_str,pv 0,qk,(λ_ _=>rfl)],#[pe_gS,4,_,T.m_LETTERS,_],(by with_unfolding_all rfl)],#[qe,3,#[qq,4,YR]],qw],#[qe,3,#[qq,4,#[qy,9,#[Zb,1,rfl],_,T.z_all,boot_all,#[qb,5,#[JX,2,["sign"],(1),[],9,lcs0,rfl,#[pi_str,4,pv 0],(λ_ _ _ _ _ _=>#[qO,2,(0),1,(show List.Nodup (["sign"]:oj Str) by decide+kernel),rfl,Or.inl rfl,_]),(λ_ _ _ _ _ _=> @Q5 _),(λ_ _ _ _ _ _=>#[yo,8,op_in_str,pv 0,#[pe_gS,4,_,T.m_NAME_SIGNS,_],(by with_unfolding_all rfl)]),_],qd,_],_,_,_,_]]]]],?_⟩
 try dsimp only [cxOf,Cx.nox]
 refine⟨0,x,"str",tyD d,isStr d,1,hv.ty,YN d,0,?_⟩;cases hd:isStr d with
 |false=>
  refine iteT (iteT ?_);have:=k H (Same.refl H);have e:isNm d=false:=by cases d<;>first|rfl|simp [isStr] at hd
  rw [e] at this;exact this
 |true=>
  obtain⟨z,rfl⟩:∃z,d= .str z:=by cases d<;>simp [isStr] at hd;exact⟨0⟩
  obtain⟨rfl,U⟩:=hv;have k:∀H',Same H H'->Q (.bl (nm z)) H':=k;refine iteF ?_;refine⟨0,z,1,U,_,0,1,0,?_⟩;have stop:nm z=false->Q (.bl false) H:=λe=>by
   have:=k H (Same.refl H);rw [e] at this;exact this
  refine ite2 (λc1=> ?_) (λc1=> ?_)
  ·have aa:1<=(z.length:Int):=uh c1;refine⟨_,0,1,0,?_⟩;by_cases O:(z.length:Int)<=24
   ·rw [uc O];refine iteF ?_;refine⟨0,_,_,0,1,U,first_at (by omega),_,0,1,0,?_⟩
    cases e:inS ⟨#[z.cps.getD 0 0]⟩ LET with
    |false=>
     have e':(!(Builtin.Str.occurrences ("abcdefghijklmnopqrstuvwxyz":Str) ⟨#[z.cps.getD 0 0]⟩ 0 ("abcdefghijklmnopqrstuvwxyz":Str).length 1).isEmpty)=false:=e;rw [e'];refine iteT ?_;exact stop (nm_first e)
    |true=>
     have e':(!(Builtin.Str.occurrences ("abcdefghijklmnopqrstuvwxyz":Str) ⟨#[z.cps.getD 0 0]⟩ 0 ("abcdefghijklmnopqrstuvwxyz":Str).length 1).isEmpty)=true:=e;rw [e'];refine iteF ?_;refine⟨0,z,1,λD hD=> ?_⟩;refine lc_str (λc=> .bl (inS ⟨#[c]⟩ NSG)) (U) hD (λi c H' R hc sm r=>⟨0,_,0,1,r⟩) λH' sm hl=> ?_;refine⟨D,z.cps.toList.map λc=>inS ⟨#[c]⟩ NSG,1,SqL.of (by rw [hl,allMap]),?_⟩
     have:=k H' sm;rw [nm_rest aa O e] at this;exact this
   ·rw [ue O];refine iteT ?_;exact stop (nm_len λq=>O q.2)
  ·refine⟨0,?_⟩;refine iteT ?_;exact stop (nm_len λq=>c1 (uc q.1))
end
def optD:om Pt->D
 |none=> .non
 |some p=>p.d
def sp_part:Sp:=λvs H Q _=>∃(n:Nat) (kd:Kd) (z:Str),vs= [.str kd.t,.str z,.int (n:Int)]/\n<=40/\z.length<=300/\∀(v:V) (H':Hp),Same H H'->Is H' (optD (yJ n kd z)) v->Q v H'
def sp_pieces (K:o0):Sp:=λvs H Q _=>∃(z:Str) (ks:oj Kd) (q:o3),vs= [.str z,.ref q]/\z.length<=300/\ks.length<=3/\SqT K H q (ks.map λk=>V.str k.t)/\∀p,H p=none->Q (.ref p) (upd H p (.lst ((pcs ks z).map V.str)))
theorem Qi {c:Bool}{A B:Prop}(h:c=false)(b:B):if c=true then A else B:=by rw [if_neg (by rw [h];exact u8)];exact b
theorem Qy {c:Bool}{A B:Prop}(h:c=true)(a:A):if c=true then A else B:=by rw [if_pos h];exact a
theorem Xh (ks:oj Kd):(ks.map λk=>V.str k.t)=(ks.map Kd.t).map V.str:=by rw [uG];rfl
theorem words_in (ks:oj Kd):inV (.str "words") (ks.map λk=>V.str k.t)=decide (Kd.words∈ks):=by
 rw [Xh,ZA,uR,List.mem_map];constructor
 ·rintro⟨k,O,e⟩;cases k with
  |words=>exact O
  |box=>exact absurd e (by decide+kernel)
  |line=>exact absurd e (by decide+kernel)
 ·intro h;exact⟨_,h,1⟩
theorem form_few:∀x∈FRM,x.2.length<=3:=by decide+kernel
theorem Wx {n:Nat}{z:Str}(h:z∉BX):yJ n .box z=none:=by
 unfold yJ;exact if_neg h
theorem xv {n:Nat}{z:Str}(h:z∈BX):yJ n .box z=some (.s z):=by
 unfold yJ;exact if_pos h
theorem Z0 {n:Nat}{z:Str}(h:z∉(List.range n).map λi:Nat=>(toString (1+(i:Int)):Str)):yJ n .line z=none:=by
 unfold yJ;rw [Option.map_eq_none_iff,U9];intro i hi e;exact h (List.mem_map.mpr ⟨i,hi,uh e⟩)
theorem Jw {n:Nat}{z:Str}(h:z∈(List.range n).map λi:Nat=>(toString (1+(i:Int)):Str)):∃j:Int,1<=j/\j<=n/\z=(Pt.n j).t/\yJ n .line z=some (.n j):=by
 obtain⟨i,hi,e⟩:=List.mem_map.mp h;unfold yJ;cases e2:(List.range n).find? λi:Nat=>decide ((toString (1+(i:Int)):Str)=z) with
 |none=>exact absurd (uc e) (List.find?_eq_none.mp e2 i hi)
 |some j=>
  have h1:=List.find?_some e2;have h2:=List.mem_range.mp (vP e2);exact⟨1+(j:Int),by omega,by omega,(uh h1).symm,by show Option.map _ _=_;rw [e2];rfl⟩
section
variable {P:o9}{w:og}{K:o0}{mg:Str->om o6}{base:o8}{a:Ad}{g:Ga}
theorem ok_part (T:Tx K mg a)(C:Fx K w mg g a):FnOk P w K mg base CX0 1 a.f_part_of a.d_part_of ["kind","piece","count"] sp_part:=by
 refine T.g_part_of.F.ok wz () (λ_ _ _ _ H _ Q E hr h=> ?_)
 obtain⟨n,kd,z,rfl,hn,hz,k⟩:=h;refine⟨_,#[qc,5,#[qI,8,#[qr,8,QM,pv 0,qm,qz _],#[qe,3,#[qq,4,pv 1]],qw],#[qc,5,#[qI,8,#[qr,8,QM,pv 0,qm,qz _],#[qe,3,#[qq,4,#[Q2,8,#[qr,8,QR,pv 1,#[zm,4,_,C.m_BOXES,_],(by with_unfolding_all rfl)],pv 1,qQ]]],qw],#[qc,5,#[ps_setLC,2,["number"],(1),[],(3),12,wz.nd,rfl,Or.inl rfl,lcs0,rfl,#[pi_range2,7,_,T.Xn,#[qb,5,qk,#[qb,5,#[qZ,8,yR,pv 2,qk],qd,_],_],_,_],(λ_ _ _ _ _ _=>#[qO,2,(0),1,(show List.Nodup (["number"]:oj Str) by decide+kernel),rfl,Or.inl rfl,_]),(λ_ _ _ _ _ _=> @Q5 _),(λ_ _ _ _ _ _=>#[qY,9,jC,_,T.zh,Uy,#[qb,5,pv 0,qd,_],_,_,_,_]),_,_,_],#[qe,3,#[qq,4,#[Q2,8,#[qr,8,QR,pv 1,pv 3,(by with_unfolding_all rfl)],#[qY,9,call_intS,_,T.z_int,boot_int,#[qb,5,pv 1,qd,_],_,_,_,_],qQ]]]]]],?_⟩
 try dsimp only [cxOf,Cx.nox]
 refine⟨0,1,0,?_⟩;cases kd with
 |words=>
  refine Qy (by decide+kernel) ⟨0,?_⟩
  exact k _ H (Same.refl _) ⟨1,yq (by omega)⟩
 |box=>
  refine Qi (by decide+kernel) ⟨0,1,0,?_⟩
  refine Qy (by decide+kernel) ⟨0,g.boxes,0,.inr (C.boxes _),1,ZS _,0,?_⟩
  rw [if_neg u8,ZA];refine ite2 (λc=> ?_) (λc=> ?_)
  ·have U:z∈BX:=uh c;rw [xv U] at k;exact⟨0,k _ H (Same.refl _) ⟨1,yq (by omega)⟩⟩
  ·have U:z∉BX:=λq=>c (uc q);rw [Wx U] at k;exact k _ H (Same.refl _) rfl
 |line=>
  refine Qi (by decide+kernel) ⟨0,1,0,?_⟩
  refine Qi (by decide+kernel) ?_
  refine⟨0,_,0,1,(1),(n:Int)+1,1,⟨by decide,by decide,by omega,by omega⟩,λL hL=> ?_⟩
  rw [show((n:Int)+1-1).toNat=n by omega]
  refine zr (lo:=1) (tl:= []) (λi ys H'=>ys=(List.range i).map (λi:Nat=>V.str (toString (1+(i:Int))))/\Same H H') (fits (by omega)) ⟨1,qg hL _⟩ ?_ ?_
  ·rintro i ys H' hi ⟨rfl,sm⟩ O hy R hR;refine⟨0,0,?_,hR _ _ O ⟨?_,?_⟩⟩
   ·have h1:(1+(i:Int)).natAbs<=41:=by omega
    have h2:=Nat.log2_le_self (1+(i:Int)).natAbs;omega
   ·rw [List.range_succ,uu]
    rfl
   ·intro b o e;rw [qh (qj e hL)];exact sm b o e
  ·rintro ys H' ⟨rfl,sm⟩ O;have hy:(List.range n).map (λi:Nat=>V.str (toString (1+(i:Int))))=((List.range n).map λi:Nat=>(toString (1+(i:Int)):Str)).map V.str:=by rw [uG];rfl
   refine⟨0,0,L,0,.inl (SqL.of O),1,by rw [hy];exact ZS _,0,?_⟩
   rw [if_neg u8,hy,ZA];refine ite2 (λc=> ?_) (λc=> ?_)
   ·obtain⟨j,j1,j2,rfl,ej⟩:=Jw (uh c);rw [ej] at k;have hj:=num_small j1 (by omega)
    exact⟨0,_,j,1,Wg j1 (by omega),uQ hj.1 (by decide),k _ _ sm rfl⟩
   ·rw [Z0 λq=>c (uc q)] at k;exact k _ _ sm rfl
theorem ok_pieces (T:Tx K mg a):FnOk P w K mg base CX0 1 a.Ze a.zP ["line","form"] (sp_pieces K):=by
 refine T.g_pieces_of.F.ok sc_pieces_of () (λ_ _ _ _ H _ Q E hr h=> ?_)
 obtain⟨z,ks,q,rfl,hz,hk,U,k⟩:=h;refine⟨_,#[qc,5,#[qI,8,#[qr,8,QR,qm,pv 1,(by with_unfolding_all rfl)],#[qe,3,#[qq,4,#[jU,12,uO,U3,U4,mt_splitN,pv 0,#[qb,5,qm,#[qb,5,#[qy,9,qR,_,T.Yl,uJ,#[qb,5,pv 1,qd,_],_,_,_,_],qd,_],_],_,_,_,_,_]]],qw],#[qe,3,#[qq,4,#[jU,12,uO,U3,U4,mt_split,pv 0,#[qb,5,qm,qd,_],_,_,_,_,_]]]],?_⟩
 try dsimp only [cxOf,Cx.nox]
 refine⟨0,q,0,.inr U,1,by rw [Xh];exact ZS _,0,?_⟩
 rw [if_neg u8,words_in];unfold pcs at k;refine ite2 (λc=> ?_) (λc=> ?_)
 ·have O:Kd.words∈ks:=uh c;rw [if_pos O] at k;have h0:0<ks.length:=List.length_pos_iff.mpr λe=>by rw [e] at O;simp at O
  exact⟨0,1,0,q,0,.inr U,_,ks.length,1,by rw [u9],by omega,h0,by omega,k⟩
 ·have O:Kd.words∉ks:=λz=>c (uc z);rw [if_neg O] at k;exact⟨0,1,0,1,by omega,k⟩
noncomputable def optR:om Rw->D
 |none=> .non
 |some r=>rowD r
def Qf (n:Nat):D->om Rw
 | .str z=>ZD n z
 |_=>none
def sp_row_of:Sp:=λvs H Q _=>∃(v:V) (d:D) (n:Nat),vs= [v,.int (n:Int)]/\Is H d v/\n<=40/\∀(v':V) (H':Hp),Same H H'->Is H' (optR (Qf n d)) v'->Q v' H'
theorem rowOfD_bad {n:Nat}:∀{d:D},isTx d=false->Qf n d=none
 | .str z,h=>by
  show ZD n z=none;unfold ZD;exact if_neg (by rw [show Qq z=false from h];exact u8)
 | .non,_=>rfl
 | .int _,_=>rfl
 | .bl _,_=>rfl
 | .lst,_=>rfl
 | .dct,_=>rfl
 | .tup _,_=>rfl
theorem txt_str:∀{d:D},isTx d=true->∃z,d= .str z
 | .str z,_=>⟨z,1⟩
def jh (n:Nat)(ks:oj Kd)(zs:oj Str):oj (om Pt):=List.zipWith (yJ n) ks zs
theorem wQ {n:Nat}:∀{ks:oj Kd}{zs:oj Str},(jh n ks zs).any Option.isNone=true->yO n ks zs=none
 | [],_,h=>by simp [jh] at h
 |_::_,[],h=>by simp [jh] at h
 |k::ks,z::zs,h=>by
  rw [jh,List.zipWith_cons_cons,Ug,Bool.or_eq_true] at h;unfold yO;rcases h with h|h
  ·rw [Option.isNone_iff_eq_none.mp h]
  ·rw [wQ h];split
   ·rename_i h1 h2;cases h2
   ·rfl
theorem wH {n:Nat}:∀{ks:oj Kd}{zs:oj Str},zs.length=ks.length->(jh n ks zs).any Option.isNone=false->∃ps,yO n ks zs=some ps/\jh n ks zs=ps.map some
 | [],[],_,_=>⟨[],1,1⟩
 | [],_::_,hl,_=>by simp at hl
 |_::_,[],hl,_=>by simp at hl
 |k::ks,z::zs,hl,h=>by
  rw [jh,List.zipWith_cons_cons,Ug,Bool.or_eq_false_iff] at h;obtain⟨ps,O,e2⟩:=wH (ks:=ks) (zs:=zs) (by simpa using hl) h.2
  cases e:yJ n k z with
  |none=>rw [e] at h;cases h.1
  |some p=>
   refine⟨p::ps,?_,?_⟩
   ·unfold yO;rw [e,O]
   ·rw [jh,List.zipWith_cons_cons,e,uq]
    congr 1
theorem vals_o {H:Hp}:∀{os:oj (om Pt)}{vs:oj V},L2.IsL H (os.map optD) vs->vs.all zp=true/\inV .non vs=os.any Option.isNone
 | [],_,h=>by cases(show _= [] from h);exact⟨1,1⟩
 |q::ps,_,h=>by
  obtain⟨v,r,rfl,h1,h2⟩:=h;obtain⟨U,i2⟩:=vals_o h2;have O:zp v=true/\eqV v .non=q.isNone:=by
   cases q with
   |none=>cases(show v= .non from h1);exact⟨1,1⟩
   |some q=>
    cases q with
    |s z=>obtain⟨rfl,_⟩:=h1;exact⟨1,1⟩
    |n i=>cases(show v= .int i from h1);exact⟨1,1⟩
  refine⟨?_,?_⟩
  ·rw [vi,O.1,U];rfl
  ·show(eqV v .non||inV .non r)=_
   rw [O.2,i2];rfl
theorem range_map {α:Type}(l:oj α)(h:α->D)(f:Nat->D)(O:∀i q,l[i]? =some q->f i=h q):(List.range l.length).map f=l.map h:=by
 apply List.ext_getElem
 ·simp
 ·intro i h1 h2;simp only [u9,List.length_range] at h1;simp only [List.getElem_map,List.getElem_range];exact O i l[i] (uf h1)
theorem ok_row_of (T:Tx K mg a)(C:Fx K w mg g a):FnOk P w K mg base CX0 2 a.f_row_of a.d_row_of ["line","count"] sp_row_of:=by
 have Zs:=wI (P:=P) (w:=w) (base:=base) T;have aa:=ok_part (P:=P) (w:=w) (base:=base) T C;have O:=ok_pieces (P:=P) (w:=w) (base:=base) T;refine T.g_row_of.F.ok jM () (λ_ _ _ _ H vs Q E hr h=> ?_)
 obtain⟨v,d,n,rfl,hv,hn,k⟩:=h;refine⟨_,#[qc,5,#[qI,8,#[Qp,4,#[Qe,3,#[qx,16,Zs,hr.mono (),_,T.g_is_text.m,T.g_is_text.F.kp,T.g_is_text.b,.nil,qB,#[qb,5,pv 0,qd,_],_,_,_],_]],#[qe,3,#[qq,4,qQ]],qw],#[qc,5,#[qC,2,(2),4,jM.nd,rfl,Or.inl rfl,#[qL,7,qJ,#[jU,12,uO,PySem.F.slot_str_partition,PySem.F.type_str_partition,mt_part,pv 0,#[qb,5,qm,qd,_],_,_,_,_,_],qk,(λ_ _=>rfl)],_,_],#[qc,5,#[qI,8,#[qr,8,op_notK,pv 2,#[zm,4,_,C.m_FORMS,_],(by with_unfolding_all rfl)],#[qe,3,#[qq,4,qQ]],qw],#[qc,5,#[qC,2,(3),4,jM.nd,rfl,Or.inl rfl,#[qL,7,ix_K,#[zm,4,_,C.m_FORMS,_],pv 2,(λ_ _=>rfl)],_,_],#[qc,5,#[qC,2,(4),4,jM.nd,rfl,Or.inl rfl,#[qx,16,O,hr.mono (),_,T.g_pieces_of.m,T.g_pieces_of.F.kp,T.g_pieces_of.b,.nil,qB,#[qb,5,pv 0,#[qb,5,pv 3,qd,_],_],_,_,_],_,_],#[qc,5,#[qI,8,#[qr,8,op_ne,#[qy,9,qR,_,T.Yl,uJ,#[qb,5,pv 4,qd,_],_,_,_,_],#[qZ,8,yR,qk,#[qy,9,qR,_,T.Yl,uJ,#[qb,5,pv 3,qd,_],_,_,_,_]],qz _],#[qe,3,#[qq,4,qQ]],qw],#[qc,5,#[qC,2,(5),4,jM.nd,rfl,Or.inl rfl,#[qY,9,qT,_,T.Qz,vf,#[qb,5,#[JX,2,["kind","piece","count"],(2),[1],9,lcsN (qi zt) ["line","count","word","form","pieces","parts"],rfl,#[pi_zip,9,_,T.z_zip,#[qb,5,pv 3,#[qb,5,#[zA,10,sl_list,pv 4,#[zW,3,qk],Wz],qd,_],_],_,_],(λ_ _ _ _ _ _=>#[pg_tupK,1,K,3,(2),1,rfl,rfl,yY #[qO,2,(0),1,(show List.Nodup (["kind","piece","count"]:oj Str) by decide+kernel),rfl,Or.inl rfl,_] (yY #[qO,2,(1),1,(show List.Nodup (["kind","piece","count"]:oj Str) by decide+kernel),rfl,Or.inl rfl,_] WK),_,_]),(λ_ _ _ _ _ _=> @Q5 _),(λ_ _ _ _ _ _=>#[qx,16,aa,hr.mono (),_,T.g_part_of.m,T.g_part_of.F.kp,T.g_part_of.b,.nil,qB,#[qb,5,pv 0,#[qb,5,pv 1,#[qb,5,pv 2,qd,_],_],_],_,_,_]),_],qd,_],_,_,_,_],_,_],#[qe,3,#[qq,4,#[Q2,8,#[qr,8,QR,qQ,pv 5,(by with_unfolding_all rfl)],qQ,#[qF,5,#[qb,5,pv 2,#[qb,5,pv 5,qd,_],_]]]]]]]]]]]],?_⟩
 try dsimp only [cxOf,Cx.nox]
 refine⟨0,v,d,1,hv,0,?_⟩;cases e0:isTx d with
 |false=>
  rw [rowOfD_bad e0] at k;exact Qy rfl (k _ H (Same.refl _) rfl)
 |true=>
 obtain⟨z,rfl⟩:=txt_str e0;obtain⟨rfl,au⟩:=hv;have ht:Qq z=true:=e0;have hz:z.length<=300:=by
  have U:=ht;unfold Qq at U;rw [ur,uU] at U;exact U.1
 have k:∀(v':V) (H':Hp),Same H H'->Is H' (optR (ZD n z)) v'->Q v' H':=k;refine Qi rfl ?_;refine⟨0,1,0,1,by omega,λt1 x1 x2 g1=> ?_⟩
 refine⟨t1,_,(0),0,1,SqT.of qf,1,?_⟩;have s1:Same H (upd H t1 (.tup [.str (hd z),.str x1,.str x2])):=qg g1 _;generalize upd H t1 (.tup [.str (hd z),.str x1,.str x2])=H1 at s1⊢;unfold ZD at k;rw [if_pos ht] at k;cases ef:Jz (hd z) with
 |none=>
  rw [ef] at k;refine⟨0,hd z,g.forms,0,1,C.kd,C.none_ _ ef,0,?_⟩;exact Qy rfl (k _ _ s1 rfl)
 |some ks=>
 have hk:=Xy ef;rw [ef] at k;simp only at k;obtain⟨q,ah,ac⟩:=C.forms _ hk;have hf:ks.length<=3:=form_few _ hk;refine⟨0,hd z,g.forms,0,1,C.kd,ah,0,?_⟩;refine Qi rfl ?_;refine⟨0,hd z,g.forms,_,.ref q,1,1,C.kd,ah,1,?_⟩;refine⟨0,0,z,ks,q,1,hz,hf,ac _,λp2 g2=> ?_⟩;have s2:Same H1 (upd H1 p2 (.lst ((pcs ks z).map V.str))):=qg g2 _;have e2:(upd H1 p2 (.lst ((pcs ks z).map V.str))) p2=some (.lst ((pcs ks z).map V.str)):=qf;generalize upd H1 p2 (.lst ((pcs ks z).map V.str))=H2 at s2 e2⊢;refine⟨0,p2,0,.inl (SqL.of e2),0,q,0,.inr (ac _),_,0,1,1,0,?_⟩;by_cases hl:(pcs ks z).length=1+ks.length
 case neg=>
  rw [if_neg hl] at k;refine Qy ?_ (k _ _ (s1.trans s2) rfl);rw [u9,u9];show(!decide (V.int _=V.int _))=true;rw [ue]
  ·rfl
  ·intro q;have:((pcs ks z).length:Int)=1+(ks.length:Int):=V.int.inj q;omega
 rw [if_pos hl] at k;refine Qi ?_ ?_
 ·rw [u9,u9,show((pcs ks z).length:Int)=1+(ks.length:Int) by omega]
  simp
 have af:((pcs ks z).drop 1).length=ks.length:=by rw [vI];omega
 have ak:∀p∈(pcs ks z).drop 1,p.length<=300:=λp hp=>by
  have U:=ht;unfold Qq at U;rw [ur,uU] at U;exact(spl_ok U.1 U.2 p (List.mem_of_mem_drop hp)).1
 refine⟨0,0,0,p2,0,SqL.of e2,λp3 g3=> ?_⟩;have al:cutV ((pcs ks z).map V.str) (some 1) none=((pcs ks z).drop 1).map V.str:=by
  rw [show(some (1:Int))=some (((1:Nat)):Int) from rfl,cutV_drop (by rw [u9];omega),List.map_drop]
 rw [al];generalize (pcs ks z).drop 1=zs at af ak k⊢;have s3:Same H2 (upd H2 p3 (.lst (zs.map V.str))):=qg g3 _;have e3:(upd H2 p3 (.lst (zs.map V.str))) p3=some (.lst (zs.map V.str)):=qf;generalize upd H2 p3 (.lst (zs.map V.str))=H3 at s3 e3⊢;have ao:(jh n ks zs).length=ks.length:=by rw [jh,List.length_zipWith];omega
 refine⟨q,p3,_,0,ac _,SqL.of e3,λA1 gA=> ?_⟩;refine lc_zip (K:=K) (tl:= [some (.int (n:Int))]) (xs:=ks.map λk:Kd=>V.str k.t) (ys:=zs.map V.str) (λi=>optD ((jh n ks zs).getD i none)) (λH' _=>ac H') (λH' sm=>SqL.of (sm _ _ e3)) (by simp [af]) (by rw [u9];exact yq (by omega)) gA ?_ ?_
 ·intro i x y H4 R hx hy s4 hR;rw [uF] at hx hy;cases ag:ks[i]? with
  |none=>rw [ag] at hx;cases hx
  |some kd=>
   rw [ag] at hx;cases hx;cases ad:zs[i]? with
   |none=>rw [ad] at hy;cases hy
   |some z1=>
    rw [ad] at hy;cases hy;refine⟨0,0,0,n,kd,z1,1,hn,ak _ (uS ad),λv H5 s5 hv=>hR v H5 s5 ?_⟩;have e:(jh n ks zs).getD i none=yJ n kd z1:=by simp [List.getD,jh,List.getElem?_zipWith,ag,ad]
    simp only [e];exact hv
 intro H5 vs s5 e5 h5;have am:L2.IsL H5 ((jh n ks zs).map optD) vs:=by
  rw [u9,<-ao] at h5;rw [range_map (jh n ks zs) optD _ (λi q1 hi=>by simp [List.getD,hi])] at h5
  exact h5
 refine⟨A1,vs,1,.inl ⟨SqL.of e5,λt6 g6=> ?_⟩⟩;have s6:Same H5 (upd H5 t6 (.tup vs)):=qg g6 _;have i6:Is (upd H5 t6 (.tup vs)) (.tup ((jh n ks zs).map optD)) (.ref t6):=Is.new am g6;have e6:(upd H5 t6 (.tup vs)) t6=some (.tup vs):=qf;generalize upd H5 t6 (.tup vs)=H6 at s6 i6 e6⊢;obtain⟨f1,f2⟩:=vals_o am;have ae:=s1.trans (s2.trans (s3.trans (s5.trans s6)));refine⟨0,t6,vs,1,.inr (SqT.of e6),1,f1,0,?_⟩;rw [if_neg u8,f2];refine ite2 (λc=> ?_) (λc=> ?_)
 ·rw [wQ c] at k;exact k _ _ ae rfl
 ·have c':(jh n ks zs).any Option.isNone=false:=by
   cases h:(jh n ks zs).any Option.isNone with
   |false=>rfl
   |true=>exact absurd h c
  obtain⟨ps,q1,q2⟩:=wH af c';rw [q1] at k;rw [q2,uG] at i6;refine⟨0,0,(sml rfl),λt7 g7=> ?_⟩;have ap:(hd z).length<=sizeLine:=by
   have aq:∀x∈FRM,x.1.length<=100:=by decide+kernel
   have:=aq _ hk;exact yq (by simp only at this;omega)
  exact k _ _ (ae.trans (qg g7 _)) (Is.new (ds:= [.str (hd z),.tup (ps.map Pt.d)]) ⟨_,0,⟨1,ap⟩,_,0,i6,1⟩ g7)
theorem part_line {n M:Nat}(hn:n<=40){k:Kd}{p:Pt}(h:ptOk n M k p):yJ n k p.t=some p:=by
 cases k with
 |words=>
  cases p with
  |s z=>rfl
  |n i=>cases h
 |box=>
  cases p with
  |s z=>exact xv h
  |n i=>cases h
 |line=>
  cases p with
  |s z=>cases h
  |n i=>
   have h1:1<=i/\i<=n:=h;have hm:(Pt.n i).t∈(List.range n).map λi:Nat=>(toString (1+(i:Int)):Str):=List.mem_map.mpr ⟨(i-1).toNat,List.mem_range.mpr (by omega),by show(toString (1+(((i-1).toNat:Nat):Int)):Str)=toString i;rw [show 1+(((i-1).toNat:Nat):Int)=i by omega]⟩
   obtain⟨j,U,j2,ej,e⟩:=Jw hm;rw [e];have b1:=Wg (i:=i) h1.1 (by omega)
   have b2:=Wg (i:=j) U (by omega)
   have O:(toString i:Str)=toString j:=ej;rw [O,b2] at b1;rw [uE b1]
theorem wu {n M:Nat}(hn:n<=40):∀{ks:oj Kd}{ps:oj Pt},JV n M ks ps->yO n ks (ps.map Pt.t)=some ps
 | [],[],_=>rfl
 |k::ks,p::ps,h=>by
  rw [uq];unfold yO;rw [part_line hn h.1,wu hn h.2]
 | [],_::_,h=>h.elim
 |_::_,[],h=>h.elim
theorem form_line {w:Str}{ks:oj Kd}(h:(w,ks)∈FRM):Jz w=some ks:=by
 cases e:Jz w with
 |none=>exact absurd rfl (ZK e _ h)
 |some O=>
  have:=form_nd _ (Xy e) _ h rfl;rw [(Prod.mk.inj this).2]
theorem rowOf_line {n M:Nat}{r:Rw}(hn:n<=40)(h:jg n M r)(ht:Qq (yG r)=true):ZD n (yG r)=some r:=by
 have hh:=line_hd h;obtain⟨ks,U,O⟩:=h;unfold ZD;rw [if_pos ht,hh,form_line U];simp only;have hs:pcs ks (yG r)=txs r:=line_spl hn U O;have hl:=XQ O;rw [hs,if_pos (by unfold txs;rw [ui,u9];omega)]
 show Option.map _ (yO n ks (r.2.map Pt.t))=_;rw [wu hn O]
 rfl
def JU (rs:oj Rw):D:= .tup (rs.map λr=> .str (yG r))
structure QY (rs:oj Rw):Prop where
 n0:1<=rs.length
 n1:rs.length<=40
 ok:∀r∈rs,jg rs.length 300 r
 tree:isT (JU rs)=true
theorem goodL_mem:∀{ds:oj D}{d:D},goodL ds=true->d∈ds->good d=true
 |x::xs,d,h,hm=>by
  simp only [goodL,ur] at h;rcases List.mem_cons.mp hm with rfl|hm
  ·exact h.1
  ·exact goodL_mem h.2 hm
theorem QY.text {rs:oj Rw}(h:QY rs){r:Rw}(O:r∈rs):Qq (yG r)=true:=by
 have h1:=h.tree;unfold isT at h1;rw [ur,ur] at h1;have h2:=h1.1.1;unfold JU at h2;simp only [good,ur] at h2;have:=goodL_mem h2.2 (List.mem_map.mpr ⟨r,O,1⟩)
 simpa only [good] using this
def QZ:D->om (oj Rw)
 | .tup ds=>if(decide (1<=ds.length)&&decide (ds.length<=40)&&ds.all (λd=>(Qf ds.length d).isSome)&&isT (.tup ds))=true then some (ds.filterMap (Qf ds.length)) else none
 |_=>none
theorem xM (ds:oj D):QZ (.tup ds)=if(decide (1<=ds.length)&&decide (ds.length<=40)&&ds.all (λd=>(Qf ds.length d).isSome)&&isT (.tup ds))=true then some (ds.filterMap (Qf ds.length)) else none:=rfl
theorem rows_back {n:Nat}:∀{rs:oj Rw},(∀r∈rs,Qf n (.str (yG r))=some r)->(rs.map λr=>D.str (yG r)).filterMap (Qf n)=rs
 | [],_=>rfl
 |r::rs,h=>by
  rw [uq,vS (h r ud),rows_back λx O=>h x (ub _ O)]
theorem QY.rowD {rs:oj Rw}(h:QY rs){r:Rw}(O:r∈rs):Qf rs.length (.str (yG r))=some r:=rowOf_line h.n1 (h.ok r O) (h.text O)
theorem QY.read {rs:oj Rw}(h:QY rs):QZ (JU rs)=some rs:=by
 have hl:(rs.map λr=>D.str (yG r)).length=rs.length:=u9 ..;have U:=h.tree;unfold JU at U⊢;rw [xM,hl,if_pos]
 ·rw [rows_back λr O=>h.rowD O]
 ·rw [uc h.n0,uc h.n1,U,List.all_eq_true.mpr]
  ·rfl
  ·intro d hd;obtain⟨r,O,rfl⟩:=List.mem_map.mp hd;rw [h.rowD O]
   rfl
def RdOk (d x y:D):Prop:=(∀rs,QZ d=some rs->x= .tup (rs.map L2.rowD)/\y= .non)/\(QZ d=none->∃i:Int,y= .int i)
def sp_read:Sp:=λvs H Q _=>∃(v:V) (d:D),vs= [v]/\Is H d v/\∀(u:V) (H':Hp) (x y:D),Same H H'->RdOk d x y->Is H' (.tup [x,y]) u->Q u H'
theorem rd_bad {d x:D}{i:Int}(h:QZ d=none):RdOk d x (.int i):=⟨λrs e=>(by rw [h] at e;cases e),λ_=>⟨i,1⟩⟩
theorem xI {α:Type}{o:om α}(h:o.isSome=true):∃x,o=some x:=by cases o with
 |none=>cases h
 |some x=>exact⟨x,1⟩
theorem rows_take {n:Nat}{ds:oj D}{i:Nat}{d:D}{r:Rw}(h1:ds[i]? =some d)(h2:Qf n d=some r):(ds.take (i+1)).filterMap (Qf n)=(ds.take i).filterMap (Qf n)++ [r]:=by
 rw [vv,h1,List.filterMap_append];simp [h2]
theorem rows_len {n:Nat}:∀{ds:oj D},(∀z∈ds,(Qf n z).isSome=true)->(ds.filterMap (Qf n)).length=ds.length
 | [],_=>rfl
 |z::ds,h=>by
  obtain⟨r,e⟩:=xI (h z ud);rw [vS e,ui,ui];exact congrArg (·+1) (rows_len λy O=>h y (ub _ O))
theorem ok_read (T:Tx K mg a)(C:Fx K w mg g a):FnOk P w K mg base CX0 3 a.XL a.zd ["value"] sp_read:=by
 have ye:=YJ (P:=P) (w:=w) (base:=base) T;have aa:=ok_row_of (P:=P) (w:=w) (base:=base) T C;refine T.g_read_lines.F.ok yX () (λ_ _ _ _ H vs Q E hr h=> ?_)
 obtain⟨v,d,rfl,hv,k⟩:=h;refine⟨_,#[qc,5,@qI _ _ _ _ _ _ _ _ #[Zm,7,#[Qp,4,#[Qe,3,#[qy,9,#[qM,2,rfl],_,T.qE,uK,#[qb,5,pv 0,#[qb,5,#[QN,2,.ty "tuple",2,_,T.Qz,vf,rfl,_,_],qd,_],_],_,_,_,_],_]],#[xh,4,#[Qp,4,#[pt_chain,12,op_le,op_le,qk,#[qy,9,qR,_,T.Yl,uJ,#[qb,5,pv 0,qd,_],_,_,_,_],#[Wl,4,_,T.m_MOST_LINES,_],_]]]].pt #[qe,3,#[qq,4,#[qF,5,#[qb,5,#[qF,5,qd],#[qb,5,qk,qd,_],_]]]] qw,#[qc,5,#[qC,2,(1),4,yX.nd,rfl,Or.inl rfl,#[QO,4,qd],_,_],#[qc,5,#[jv,8,v6,rfl,#[pi_tup,4,pv 0],#[qO,2,(2),1,yX.nd,rfl,Or.inl rfl,_],#[qc,5,#[qC,2,(3),4,yX.nd,rfl,Or.inl rfl,#[qx,16,aa,hr.mono (),_,T.g_row_of.m,T.g_row_of.F.kp,T.g_row_of.b,.nil,qB,#[qb,5,pv 2,#[qb,5,#[qy,9,qR,_,T.Yl,uJ,#[qb,5,pv 0,qd,_],_,_,_,_],qd,_],_],_,_,_],_,_],#[qc,5,#[qI,8,#[qr,8,yT,pv 3,qQ,qz _],#[qe,3,#[qq,4,#[qF,5,#[qb,5,#[qY,9,qT,_,T.Qz,vf,#[qb,5,pv 1,qd,_],_,_,_,_],#[qb,5,#[qZ,8,yR,#[qy,9,qR,_,T.Yl,uJ,#[qb,5,pv 1,qd,_],_,_,_,_],qk],qd,_],_]]]],qw],#[qe,3,#[qU,4,#[jU,12,uY,vT,vU,jP,pv 1,#[qb,5,pv 3,qd,_],_,_,_,_,_],_]]]],_],#[qe,3,#[qq,4,#[qF,5,#[qb,5,#[qY,9,qT,_,T.Qz,vf,#[qb,5,pv 1,qd,_],_,_,_,_],#[qb,5,#[Q2,8,#[Qe,3,#[qx,16,ye,hr.mono (),_,T.g_is_tree.m,T.g_is_tree.F.kp,T.g_is_tree.b,.nil,qB,#[qb,5,pv 0,qd,_],_,_,_],_],qQ,qk],qd,_],_]]]]]]],?_⟩
 try dsimp only [cxOf,Cx.nox]
 refine⟨0,v,"tuple",_,xN d,1,hv.ty,jL d,0,?_⟩;have U:QZ d=none->∀(t:o3),H t=none->∀t2,(upd H t (.tup [])) t2=none->Q (.ref t2) (upd (upd H t (.tup [])) t2 (.tup [.ref t,.int 1])):=λhn t g t2 g2=>
  k _ _ (.tup []) (.int 1) ((qg g _).trans (qg g2 _)) (rd_bad hn) (Is.new (ds:= [.tup [],.int 1]) ⟨_,0,Is.new (ds:= []) rfl g,_,0,1,1⟩ g2)
 cases ht:xN d with
 |false=>
  have hn:QZ d=none:=by
   cases d with
   |tup ds=>cases ht
   |_=>rfl
  exact iteT (iteT ⟨(sml rfl),λt g1=>⟨(sml rfl),λt2 g2=>U hn t g1 t2 g2⟩⟩)
 |true=>
 obtain⟨ds,rfl⟩:∃ds,d= .tup ds:=by
  cases d with
  |tup ds=>exact⟨ds,1⟩
  |_=>cases ht
 refine iteF ?_;have ad:=hv;obtain⟨va,us,rfl,ha,hu⟩:=ad;have ae:us.length=ds.length:=hu.length;refine⟨0,va,us,1,.inr (SqT.of ha),_,0,1,0,?_⟩;have no:¬(1<=ds.length/\ds.length<=40/\(∀z∈ds,(Qf ds.length z).isSome=true)/\isT (.tup ds)=true)->QZ (.tup ds)=none:=λhc=>by
  unfold QZ;refine if_neg λz=>hc ?_;simp only [ur,uU,vX] at z;exact⟨z.1.1.1,z.1.1.2,z.1.2,z.2⟩
 by_cases c1:1<=ds.length
 case neg=>
  refine Qi (ue (by omega)) ⟨0,?_⟩
  exact iteT ⟨(sml rfl),λt g1=>⟨(sml rfl),λt2 g2=>U (no λz=>c1 z.1) t g1 t2 g2⟩⟩
 refine Qy (uc (by omega)) ?_
 refine⟨_,0,1,0,?_⟩;by_cases c2:ds.length<=40
 case neg=>
  refine Qy (by rw [ue (by omega)];rfl) ?_
  exact⟨(sml rfl),λt g1=>⟨(sml rfl),λt2 g2=>U (no λz=>c2 z.2.1) t g1 t2 g2⟩⟩
 refine Qi (by rw [uc (by omega)];rfl) ?_
 refine⟨(sml rfl),λL1 g1=> ?_⟩;refine⟨0,va,1,⟨us,SqT.of (qg g1 _ _ _ ha)⟩,?_⟩
 let J1_:Nat->L2.St->Hp->Prop:=λi σ H'=>i<=ds.length/\(∀z∈ds.take i,(Qf ds.length z).isSome=true)/\∃(ws:oj V) (x2 x3:om V),σ= [some (.ref va),some (.ref L1),x2,x3]/\H' L1=some (.lst ws)/\L2.IsL H' (((ds.take i).filterMap (Qf ds.length)).map L2.rowD) ws/\Same H H'
 refine Wk (K:=K) (a:=va) (xs:=us) J1_
  ⟨uW _,(λz hz=>by simp at hz),[],none,none,1,qf,1,qg g1 _⟩ (λi σ H' _ ⟨_,_,_,_,_,_,_,_,sm⟩=>SqT.of (sm _ _ ha)) ?_ ?_
 ·rintro i x σ H' hx ⟨ak,O,ws,x2,x3,rfl,e1,hw,sm⟩;have ac:i<ds.length:=by
   obtain⟨h,_⟩:=List.getElem?_eq_some_iff.mp hx;omega
  obtain⟨x',af,al⟩:=hu.get (i:=i) (d:=ds[i]) (uf ac);rw [hx] at af;cases af;have am:ws.length=i:=by
   rw [hw.length,u9,rows_len O,vn];omega
  refine⟨0,0,va,us,1,.inr (SqT.of (sm _ _ ha)),x,ds[i],ds.length,by rw [ae];rfl,al.mono sm.tk,c2,λv H2 s2 hv=> ?_⟩
  have e2:=s2 _ _ e1;cases er:Qf ds.length ds[i] with
  |some r=>
   rw [er] at hv;have hv:Is H2 (L2.rowD r) v:=hv;have ad:=hv;obtain⟨ag,ao,rfl,_,_⟩:=ad;refine⟨0,1,0,?_⟩;refine Qi (ue λz=>by cases z) ?_
   refine⟨0,.inl ⟨1,_,SqL.of e2⟩,0,L1,ws,0,1,e2,xL (by omega),?_⟩
   have t3:Tk H2 (upd H2 L1 (.lst (ws++ [.ref ag]))):=Tk.updL e2;refine⟨ac,λz hz=> ?_,ws++ [.ref ag],_,0,qf,?_,λb o e=> ?_⟩
   ·rw [vv,uf ac] at hz;rcases List.mem_append.mp hz with hz|hz
    ·exact O z hz
    ·have:z=ds[i]:=by simpa using hz
     rw [this,er]
     rfl
   ·rw [rows_take (uf ac) er,uu];exact((hw.mono s2.tk).mono t3).append (IsL.one (hv.mono t3))
   ·rw [qh (qj e g1)];exact s2 b o (sm b o e)
  |none=>
   rw [er] at hv;cases(show v= .non from hv)
   refine⟨0,1,0,?_⟩;refine Qy rfl ?_;refine⟨0,L1,ws,1,.inl ⟨SqL.of e2,λt1 g2=> ?_⟩⟩;have s3:Same H2 (upd H2 t1 (.tup ws)):=qg g2 _;have i3:Is (upd H2 t1 (.tup ws)) (.tup (((ds.take i).filterMap (Qf ds.length)).map L2.rowD)) (.ref t1):=Is.new (hw.mono s2.tk) g2;refine⟨0,L1,ws,1,.inl (SqL.of (s3 _ _ e2)),_,0,1,(sml rfl),λt4 g4=> ?_⟩;exact k _ _ _ (.int _) (sm.trans (s2.trans (s3.trans (qg g4 _)))) (rd_bad (no λz=>by have:=z.2.2.1 _ (uT ac);rw [er] at this;cases this)) (Is.new (ds:= [.tup (((ds.take i).filterMap (Qf ds.length)).map L2.rowD),.int _]) ⟨_,0,i3,_,0,1,1⟩ g4)
 ·rintro σ H' ⟨ak,O,ws,x2,x3,rfl,e1,hw,sm⟩;rw [ae,Um] at hw O;refine⟨0,L1,ws,1,.inl ⟨SqL.of e1,λt1 g2=> ?_⟩⟩;have s2:Same H' (upd H' t1 (.tup ws)):=qg g2 _;have i2:Is (upd H' t1 (.tup ws)) (.tup ((ds.filterMap (Qf ds.length)).map L2.rowD)) (.ref t1):=Is.new hw g2;generalize upd H' t1 (.tup ws)=H2 at s2 i2⊢;refine⟨0,_,.tup ds,1,hv.mono (sm.trans s2).tk,λH3 s3=> ?_⟩;refine⟨0,?_⟩;cases hT:isT (.tup ds) with
  |true=>
   refine Qy rfl ⟨(sml rfl),λt4 g4=> ?_⟩;have ah:QZ (.tup ds)=some (ds.filterMap (Qf ds.length)):=by
    rw [xM,if_pos];rw [uc c1,uc c2,hT,List.all_eq_true.mpr O]
    rfl
   exact k _ _ _ .non (sm.trans (s2.trans (s3.trans (qg g4 _)))) ⟨λrs e=>(by rw [ah] at e;cases e;exact⟨1,1⟩),λe=>(by rw [ah] at e;cases e)⟩ (Is.new (ds:= [.tup ((ds.filterMap (Qf ds.length)).map L2.rowD),.non]) ⟨_,0,i2.mono s3.tk,_,0,1,1⟩ g4)
  |false=>
   refine Qi rfl ⟨(sml rfl),λt4 g4=> ?_⟩;exact k _ _ _ (.int 1) (sm.trans (s2.trans (s3.trans (qg g4 _)))) (rd_bad (no λz=>by have:=z.2.2.2;rw [hT] at this;cases this)) (Is.new (ds:= [.tup ((ds.filterMap (Qf ds.length)).map L2.rowD),.int 1]) ⟨_,0,i2.mono s3.tk,_,0,1,1⟩ g4)
def sp_rows (br:o3):Sp:=λvs H Q E=>∃(v:V) (d:D),vs= [v]/\Is H d v/\(∀rs,QZ d=some rs->∀(u:V) (H':Hp),Same H H'->Is H' (.tup (rs.map L2.rowD)) u->Q u H')/\(QZ d=none->∀(e:o3) (H':Hp),Same H H'->E (.ref e) (some br) H')
theorem ok_rows (T:Tx K mg a)(C:Fx K w mg g a):FnOk P w K mg base (CX1 P w) 4 a.Zr a.Zo ["tree"] (sp_rows g.br):=by
 have jq:=ok_read (P:=P) (w:=w) (base:=base) T C;refine T.g_rule_rows.F.okX XT () (λ_ _ _ _ H _ Q E hr h=> ?_)
 obtain⟨v,d,rfl,hv,k,kB⟩:=h;refine⟨_,#[qc,5,#[qC,2,(1),4,XT.nd,rfl,Or.inl rfl,#[qx,16,jq,hr.mono (),_,T.g_read_lines.m,T.g_read_lines.F.kp,T.g_read_lines.b,.nil,qB,#[qb,5,pv 0,qd,_],_,_,_],_,_],#[qc,5,#[qI,8,#[qr,8,op_notN,#[qL,7,qJ,pv 1,qk,(λ_ _=>rfl)],qQ,qz _],#[qe,3,#[Wr,22,C.x_BadRule,_,C.m_BadRule,qm,_,_]],qw],#[qe,3,#[qq,4,#[qL,7,qJ,pv 1,qk,(λ_ _=>rfl)]]]]],?_⟩
 try dsimp only [cxOf,Cx.nox]
 refine⟨0,v,d,1,hv,λu H1 x y s1 hd U=> ?_⟩;refine⟨0,?_⟩;dsimp only [tC];refine JO (i:=1) (d:=y) U rfl λz hz=> ?_;cases O:QZ d with
 |none=>
  obtain⟨i,rfl⟩:=hd.2 O;cases(show z= .int i from hz)
  refine⟨1,0,?_⟩;refine Qy (by rw [ue (λz=>by cases z)];rfl) ?_
  exact⟨1,λe=>kB O e H1 s1⟩
 |some rs=>
  obtain⟨rfl,rfl⟩:=hd.1 rs O;cases(show z= .non from hz)
  refine⟨1,0,?_⟩;refine Qi rfl ?_;refine⟨0,?_⟩;dsimp only [tC];refine JO (i:=0) (d:= .tup (rs.map L2.rowD)) U rfl λq hq=> ?_;exact k rs O q H1 s1 hq
noncomputable def kvB (f:Str->V):oj (Key×V):=BX.map λz=>(Sum.inr z,f z)
theorem val_B {f:Str->V}:∀{zs:oj Str}{z:Str},z∈zs->valV (zs.map λz=>((Sum.inr z:Key),f z)) (Sum.inr z)=some (f z)
 |y::ys,z,h=>by
  rw [uq];by_cases e:y=z
  ·subst e;exact QG rfl
  ·have h':z∈ys:=by
    rcases List.mem_cons.mp h with rfl|h
    ·exact absurd rfl e
    ·exact h
   have:=val_B (f:=f) h';unfold valV at this⊢;rw [uV];have e2:decide ((Sum.inr y:Key)=Sum.inr z)=false:=ue λq=>e (Ub q);simp only [e2];exact this
theorem put_B {f:Str->V}{z:Str}{u:V}(h:z∈BX):putK (kvB f) (Sum.inr z) u=kvB λy=>if y=z then u else f y:=by
 unfold putK;rw [if_pos]
 ·unfold kvB;rw [uG];refine vV λy _=> ?_;by_cases e:y=z
  ·simp [e]
  ·simp [e]
 ·rw [List.any_eq_true];exact⟨(Sum.inr z,f z),List.mem_map.mpr ⟨z,h,1⟩,by simp⟩
def yW (H:Hp)(d:o3)(B:Str->D):Prop:=∃f:Str->V,H d=some (.dK (kvB f))/\∀z∈BX,Is H (B z) (f z)
noncomputable def setB (B:Str->D)(z:Str)(e:D):Str->D:=λy=>if y=z then e else B y
theorem yW.same {H H':Hp}{d:o3}{B:Str->D}(h:yW H d B)(s:Same H H'):yW H' d B:=let⟨f,e,i⟩:=h;⟨f,s _ _ e,λz O=>(i z O).mono s.tk⟩
theorem yW.move {H H':Hp}{d:o3}{B:Str->D}(h:yW H d B)(t:Tk H H')(e:H' d=H d):yW H' d B:=let⟨f,e1,i⟩:=h;⟨f,e.trans e1,λz O=>(i z O).mono t⟩
theorem yW.get {H:Hp}{d:o3}{B:Str->D}{z:Str}(h:yW H d B)(O:z∈BX):∃v,DGet H d (.str z) (some v)/\Is H (B z) v:=by
 obtain⟨f,e,i⟩:=h;refine⟨f z,?_,i z O⟩;have:=DGet.k (k:=(Sum.inr z:Key)) e;rw [show valV (kvB f) (Sum.inr z)=some (f z) from val_B O] at this
 exact this
theorem yW.put {H:Hp}{d:o3}{B:Str->D}{z:Str}{u:V}{e:D}(h:yW H d B)(U:z∈BX)(hu:Is H e u):∃kvs,DPut H d (.str z) u (upd H d (.dK kvs))/\yW (upd H d (.dK kvs)) d (setB B z e)/\Tk H (upd H d (.dK kvs)):=by
 obtain⟨f,O,i⟩:=h;refine⟨kvB λy=>if y=z then u else f y,.inl ⟨_,Sum.inr z,O,1,by show BX.length<sizeLine;rw [uA];decide,by rw [put_B U]⟩,⟨_,qf,λy hy=> ?_⟩,Tk.updD O⟩
 have t:Tk H (upd H d (.dK (kvB λy=>if y=z then u else f y))):=Tk.updD O
 unfold setB;by_cases c:y=z
 ·rw [if_pos c,if_pos c];exact hu.mono t
 ·rw [if_neg c,if_neg c];exact(i y hy).mono t
def Jn:oj D->Bool
 | []=>true
 | .str _::r=>Jn r
 |_=>false
def Jx:oj D->oj Str
 | .str z::r=>z::Jx r
 |_=> []
def b0 (ps:oj Pt):Str:=(ps.getD 0 (.s "")).t
def b1 (ps:oj Pt):Str:=(ps.getD 1 (.s "")).t
def b2 (ps:oj Pt):Str:=(ps.getD 2 (.s "")).t
noncomputable def firstD:D->D
 | .str z=>if z.length=0 then .non else .str ⟨#[z.cps.getD 0 0]⟩
 | .tup (x::_)=>x
 |_=> .non
noncomputable def restD:D->D
 | .str z=>if z.length=0 then .non else .str (Txt.slice z (some 1) none)
 | .tup (_::r)=> .tup r
 |_=> .non
noncomputable def lenD:D->Nat
 | .str z=>z.length
 | .tup xs=>xs.length
 |_=>0
def putD:D->D->D
 | .tup xs,e=> .tup (xs++ [e])
 |_,_=> .non
noncomputable def joinD:D->D->D
 | .str x,.str y=> .str (x++y)
 |_,_=> .non
noncomputable def cutD:D->D->D
 | .str z,.str y=>if y.length=0 then .non else .tup ((spG z y).map .str)
 |_,_=> .non
noncomputable def glueD:D->D->D
 | .tup xs,.str y=>if Jn xs=true then .str (Str.join y (Jx xs)) else .non
 |_,_=> .non
noncomputable def made (w:Str)(B:Str->D)(own:Str)(ps:oj Pt):D:=
 if w="text" then .str (b1 ps) else if w="self" then .str own else if w="copy" then B (b1 ps) else if w="row" then .tup [] else
 if w="put" then putD (B (b0 ps)) (B (b1 ps)) else if w="join" then joinD (B (b0 ps)) (B (b1 ps)) else if w="first" then firstD (B (b1 ps)) else if w="rest" then restD (B (b1 ps)) else
 if w="size" then .str (toString ((lenD (B (b1 ps)):Nat):Int)) else if w="cut" then cutD (B (b1 ps)) (B (b2 ps)) else glueD (B (b1 ps)) (B (b2 ps))
theorem QI {n m:Nat}{w:Str}{ps:oj Pt}{ks:oj Kd}(h:jg n m (w,ps))(O:(w,ks)∈FRM):JV n m ks ps:=by
 obtain⟨U,h1,h2⟩:=h;have:=form_nd _ h1 _ O rfl;cases this;exact h2
theorem sh_b {n m:Nat}{ps:oj Pt}(h:JV n m [.box] ps):∃x,ps= [.s x]/\x∈BX:=by
 match ps,h with
 | [.s x],h=>exact⟨x,1,h.1⟩
 | [.n _],h=>exact h.1.elim
theorem ZT {n m:Nat}{ps:oj Pt}(h:JV n m [.box,.box] ps):∃x y,ps= [.s x,.s y]/\x∈BX/\y∈BX:=by
 match ps,h with
 | [.s x,.s y],h=>exact⟨x,y,1,h.1,h.2.1⟩
 | [.n _,_],h=>exact h.1.elim
 | [.s _,.n _],h=>exact h.2.1.elim
theorem sh_bbb {n m:Nat}{ps:oj Pt}(h:JV n m [.box,.box,.box] ps):∃x y z,ps= [.s x,.s y,.s z]/\x∈BX/\y∈BX/\z∈BX:=by
 match ps,h with
 | [.s x,.s y,.s z],h=>exact⟨x,y,z,1,h.1,h.2.1,h.2.2.1⟩
 | [.n _,_,_],h=>exact h.1.elim
 | [.s _,.n _,_],h=>exact h.2.1.elim
 | [.s _,.s _,.n _],h=>exact h.2.2.1.elim
theorem sh_bw {n m:Nat}{ps:oj Pt}(h:JV n m [.box,.words] ps):∃x y,ps= [.s x,.s y]/\x∈BX/\y.length<=m/\y.cps.toList.all Qs=true:=by
 match ps,h with
 | [.s x,.s y],h=>exact⟨x,y,1,h.1,h.2.1⟩
 | [.n _,_],h=>exact h.1.elim
 | [.s _,.n _],h=>exact h.2.1.elim
theorem sh_bl {n m:Nat}{ps:oj Pt}(h:JV n m [.box,.line] ps):∃x,∃i:Int,ps= [.s x,.n i]/\x∈BX/\1<=i/\i<=n:=by
 match ps,h with
 | [.s x,.n i],h=>exact⟨x,i,1,h.1,h.2.1⟩
 | [.n _,_],h=>exact h.1.elim
 | [.s _,.s _],h=>exact h.2.1.elim
theorem sh_bbl {n m:Nat}{ps:oj Pt}(h:JV n m [.box,.box,.line] ps):∃x y,∃i:Int,ps= [.s x,.s y,.n i]/\x∈BX/\y∈BX/\1<=i/\i<=n:=by
 match ps,h with
 | [.s x,.s y,.n i],h=>exact⟨x,y,i,1,h.1,h.2.1,h.2.2.1⟩
 | [.n _,_,_],h=>exact h.1.elim
 | [.s _,.n _,_],h=>exact h.2.1.elim
 | [.s _,.s _,.s _],h=>exact h.2.2.1.elim
def PtsAt (H:Hp)(t:o3)(ps:oj Pt):Prop:=Is H (.tup (ps.map Pt.d)) (.ref t)
def Tr (B:Str->D):Prop:=∀z∈BX,isT (B z)=true
def XG (w:Str):Sp:=λvs H Q _=>∃(d t:o3) (own:Str) (B:Str->D) (ps:oj Pt) (n:Nat),vs= [.ref d,.str own,.ref t]/\yW H d B/\Tr B/\own.length<=100/\jg n 300 (w,ps)/\PtsAt H t ps/\
 ∀(v:V) (H':Hp),Same H H'->Is H' (made w B own ps) v->Q v H'
theorem box_at {K:o0}{H:Hp}{t:o3}{ps:oj Pt}{i:Nat}{z:Str}{Q:VK}(h:PtsAt H t ps)(e:ps[i]? =some (.s z))(q:Q (.str z) H):rIxT K (.ref t) (.int (i:Int)) H Q:=
 JO (d:= .str z) h (QW (by rw [uF,e];rfl)) λx O=>by obtain⟨rfl,_⟩:=O;exact q
theorem XN {d:D}(h:isT d=true):dp d<=12:=by
 unfold isT at h;rw [ur] at h;exact uh h.2
theorem isT_sz {d:D}(h:isT d=true):sz d<=600:=by
 unfold isT at h;rw [ur,ur] at h;exact uh h.1.2
theorem YD {d:D}(h:isT d=true):lenD d<=600:=by
 have h1:=isT_sz h;cases d with
 |str z=>simp only [sz] at h1;show z.length<=600;omega
 |tup xs=>
  unfold isT at h;rw [ur,ur] at h;have h2:=h.1.1;simp only [good,ur] at h2;have:=uh h2.1;show xs.length<=600;omega
 |_=>exact uW _
theorem app_len (z y:Str):(z++y:Str).length=z.length+y.length:=by
 show(z.cps++y.cps).size=z.cps.size+y.cps.size;exact Array.size_append
theorem bget {K:o0}{H:Hp}{t d:o3}{B:Str->D}{ps:oj Pt}{i:Nat}{z:Str}{Q:VK}(O:yW H d B)(h:PtsAt H t ps)(e:ps[i]? =some (.s z))(U:z∈BX)(q:∀v,Is H (B z) v->Q v H):rIxT K (.ref t) (.int (i:Int)) H (λy H2=>∃a v,V.ref d= .ref a/\DGet H2 a y (some v)/\Q v H2):=by
 obtain⟨v,gv,iv⟩:=O.get U;exact box_at h e ⟨d,v,1,gv,q v iv⟩
theorem ok_text (T:Tx K mg a):FnOk P w K mg base CX0 1 a.JK a.zL ["boxes","own","parts"] (XG "text"):=by
 refine T.g_text_made.F.ok sc_text_made () (λ_ _ _ _ H _ Q E hr h=> ?_)
 obtain⟨d,t,own,B,ps,n,rfl,hB,hT,ho,O,U,k⟩:=h;refine⟨_,#[qe,3,#[qq,4,#[qL,7,qJ,pv 2,qk,(λ_ _=>rfl)]]],?_⟩
 try dsimp only [cxOf,Cx.nox]
 obtain⟨x,y,rfl,hx,hy,hs⟩:=sh_bw (QI O (by decide+kernel))
 exact⟨0,box_at (i:=1) U rfl (k _ H (Same.refl _) ⟨1,yq (by show y.length<=1000;omega)⟩)⟩
theorem ok_self (T:Tx K mg a):FnOk P w K mg base CX0 1 a.JY a.zV ["boxes","own","parts"] (XG "self"):=by
 refine T.g_self_made.F.ok sc_self_made () (λ_ _ _ _ H _ Q E U h=> ?_)
 obtain⟨d,t,own,B,ps,n,rfl,hB,hT,ho,O,hp,k⟩:=h;refine⟨_,#[qe,3,#[qq,4,pv 1]],?_⟩
 try dsimp only [cxOf,Cx.nox]
 exact⟨0,k _ H (Same.refl _) ⟨1,yq (by show own.length<=1000;omega)⟩⟩
theorem ok_row (T:Tx K mg a):FnOk P w K mg base CX0 1 a.Xq a.wX ["boxes","own","parts"] (XG "row"):=by
 refine T.g_row_made.F.ok sc_row_made () (λ_ _ _ _ H _ Q E hr h=> ?_)
 obtain⟨d,t,own,B,ps,n,rfl,hB,hT,ho,U,hp,k⟩:=h;refine⟨_,#[qe,3,#[qq,4,#[qF,5,qd]]],?_⟩
 try dsimp only [cxOf,Cx.nox]
 exact⟨(sml rfl),λl O=>k _ _ (qg O _) (Is.new (ds:= []) rfl O)⟩
theorem ok_copy (T:Tx K mg a):FnOk P w K mg base CX0 1 a.J2 a.Zd ["boxes","own","parts"] (XG "copy"):=by
 refine T.g_copy_made.F.ok sc_copy_made () (λ_ _ _ _ H _ Q E U h=> ?_)
 obtain⟨d,t,own,B,ps,n,rfl,hB,hT,ho,O,hp,k⟩:=h;refine⟨_,#[qe,3,#[qq,4,#[QA,6,QU U,pv 0,#[qL,7,qJ,pv 2,qk,(λ_ _=>rfl)],(λ_ _=>rfl)]]],?_⟩
 try dsimp only [cxOf,Cx.nox]
 obtain⟨x,y,rfl,hx,hy⟩:=ZT (QI O (by decide+kernel))
 refine⟨0,0,?_⟩;exact bget (i:=1) hB hp rfl hy λv iv=>k _ H (Same.refl _) iv
theorem ok_put (T:Tx K mg a):FnOk P w K mg base CX0 1 a.XB a.w9 ["boxes","own","parts"] (XG "put"):=by
 refine T.g_put_made.F.ok Zz () (λ_ _ _ _ H _ Q E hr h=> ?_)
 obtain⟨d,t,own,B,ps,n,rfl,hB,hT,ho,aa,O,k⟩:=h;refine⟨_,#[qc,5,#[qC,2,(3),4,Zz.nd,rfl,Or.inl rfl,#[QA,6,QU hr,pv 0,#[qL,7,qJ,pv 2,qk,(λ_ _=>rfl)],(λ_ _=>rfl)],_,_],#[qc,5,#[qI,8,#[Qp,4,#[Qe,3,#[qy,9,#[qM,2,rfl],_,T.qE,uK,#[qb,5,pv 3,#[qb,5,#[QN,2,.ty "tuple",2,_,T.Qz,vf,rfl,_,_],qd,_],_],_,_,_,_],_]],#[qe,3,#[qq,4,qQ]],qw],#[qe,3,#[qq,4,#[qZ,8,zO,pv 3,#[qF,5,#[qb,5,#[QA,6,QU hr,pv 0,#[qL,7,qJ,pv 2,qk,(λ_ _=>rfl)],(λ_ _=>rfl)],qd,_]]]]]]],?_⟩
 try dsimp only [cxOf,Cx.nox]
 obtain⟨x,y,rfl,hx,hy⟩:=ZT (QI aa (by decide+kernel))
 refine⟨0,0,?_⟩;refine bget (i:=0) hB O rfl hx λv iv=> ?_;refine⟨0,v,"tuple",tyD (B x),xN (B x),1,iv.ty,jL _,0,?_⟩;have U:=YD (hT x hx);have k':∀(v:V) (H':Hp),Same H H'->Is H' (putD (B x) (B y)) v->Q v H':=k;generalize B x=dx at iv k' U⊢;cases dx with
 |tup xs=>
  refine iteF ?_;obtain⟨r,rs,rfl,er,ir⟩:=iv;refine⟨0,0,0,?_⟩;refine bget (i:=1) hB O rfl hy λu iu=> ?_;refine⟨(sml rfl),λl hl=>⟨r,l,rs,[u],1,1,SqT.of (qg hl _ _ _ er),SqT.of qf,?_,λe=> ?_,λ_ e=>(by cases e),λ_ _ p O=> ?_⟩⟩
  ·rw [ir.length];have:xs.length<=600:=U;exact yq (by show xs.length+1<=1000;omega)
  ·subst e;have e2:xs= []:=vW ir.length.symm;subst e2;exact k' _ _ (qg hl _) (Is.new (ds:= [B y]) (IsL.one iu) hl)
  ·have t1:Tk H (upd H l (.tup [u])):=(qg hl _).tk;exact k' _ _ ((qg hl _).trans (qg O _)) (Is.new (ds:=xs++ [B y]) ((ir.mono t1).append (IsL.one (iu.mono t1))) O)
 |_=>exact iteT (k' _ H (Same.refl _) rfl)
theorem ok_join (T:Tx K mg a):FnOk P w K mg base CX0 1 a.JF a.Zi ["boxes","own","parts"] (XG "join"):=by
 refine T.g_join_made.F.ok jk () (λ_ _ _ _ H _ Q E hr h=> ?_)
 obtain⟨d,t,own,B,ps,n,rfl,hB,hT,ho,aa,hp,k⟩:=h;refine⟨_,#[qc,5,#[qC,2,(3),4,jk.nd,rfl,Or.inl rfl,#[QA,6,QU hr,pv 0,#[qL,7,qJ,pv 2,qk,(λ_ _=>rfl)],(λ_ _=>rfl)],_,_],#[qc,5,#[qC,2,(4),4,jk.nd,rfl,Or.inl rfl,#[QA,6,QU hr,pv 0,#[qL,7,qJ,pv 2,qk,(λ_ _=>rfl)],(λ_ _=>rfl)],_,_],#[qc,5,@qI _ _ _ _ _ _ _ _ #[Zm,7,#[Qp,4,#[Qe,3,#[qy,9,#[qM,2,rfl],_,T.qE,uK,#[qb,5,pv 3,#[qb,5,#[QN,2,.ty "str",2,_,T.zh,Uy,rfl,_,_],qd,_],_],_,_,_,_],_]],#[xh,4,#[Qp,4,#[Qe,3,#[qy,9,#[qM,2,rfl],_,T.qE,uK,#[qb,5,pv 4,#[qb,5,#[QN,2,.ty "str",2,_,T.zh,Uy,rfl,_,_],qd,_],_],_,_,_,_],_]]]].pt #[qe,3,#[qq,4,qQ]] qw,#[qe,3,#[qq,4,#[qZ,8,Qj,pv 3,pv 4]]]]]],?_⟩
 try dsimp only [cxOf,Cx.nox]
 obtain⟨x,y,rfl,hx,hy⟩:=ZT (QI aa (by decide+kernel))
 refine⟨0,0,?_⟩;refine bget (i:=0) hB hp rfl hx λv iv=> ?_;refine⟨0,0,?_⟩;refine bget (i:=1) hB hp rfl hy λu iu=> ?_;have lx:=YD (hT x hx);have ly:=YD (hT y hy);have O:∀(v:V) (H':Hp),Same H H'->Is H' (joinD (B x) (B y)) v->Q v H':=k;generalize B x=dx at iv O lx⊢;generalize B y=U at iu O ly⊢;refine⟨0,v,"str",tyD dx,isStr dx,1,iv.ty,YN _,0,?_⟩;cases dx with
 |str z=>
  refine iteF ⟨0,u,"str",tyD U,isStr U,1,iu.ty,YN _,0,?_⟩;cases U with
  |str z2=>
   refine iteF ?_;obtain⟨rfl,_⟩:=iv;obtain⟨rfl,_⟩:=iu;have h1:z.length<=600:=lx;have h2:z2.length<=600:=ly;exact⟨0,0,_,0,1,fits (by omega),O _ H (Same.refl _) ⟨1,by rw [show(z++z2).length=z.length+z2.length from app_len z z2];exact fits (by omega)⟩⟩
  |_=>exact iteT (O _ H (Same.refl _) rfl)
 |_=>exact iteT (O _ H (Same.refl _) (by cases U<;>rfl))
theorem ok_first (T:Tx K mg a):FnOk P w K mg base CX0 1 a.jW a.XS ["boxes","own","parts"] (XG "first"):=by
 refine T.g_first_made.F.ok xR () (λ_ _ _ _ H _ Q E hr h=> ?_)
 obtain⟨d,t,own,B,ps,n,rfl,hB,hT,ho,aa,hp,k⟩:=h;refine⟨_,#[qc,5,#[qC,2,(3),4,xR.nd,rfl,Or.inl rfl,#[QA,6,QU hr,pv 0,#[qL,7,qJ,pv 2,qk,(λ_ _=>rfl)],(λ_ _=>rfl)],_,_],#[qe,3,#[qq,4,#[Q2,8,#[qr,8,op_gt,#[qy,9,jB,_,T.Yl,uJ,#[qb,5,pv 3,qd,_],_,_,_,_],qk,qz _],#[qL,7,Jt,pv 3,qk,(λ_ _=>rfl)],qQ]]]],?_⟩
 try dsimp only [cxOf,Cx.nox]
 obtain⟨x,y,rfl,hx,hy⟩:=ZT (QI aa (by decide+kernel))
 refine⟨0,0,?_⟩;refine bget (i:=1) hB hp rfl hy λv U=> ?_;have ly:=YD (hT y hy);have hg:=hT y hy;have O:∀(v:V) (H':Hp),Same H H'->Is H' (firstD (B y)) v->Q v H':=k;generalize B y=dy at U O ly hg⊢;cases dy with
 |str z=>
  obtain⟨rfl,hz⟩:=U;refine⟨0,.inl ⟨z,1,hz,_,0,1,0,?_⟩⟩;refine ite2 (λc=> ?_) (λc=> ?_)
  ·have h0:1<=z.length:=by have:=uh c;omega
   have k2:Is H (firstD (.str z)) (.str ⟨#[z.cps.getD 0 0]⟩):=by
    show Is H (if z.length=0 then D.non else _) _
    rw [if_neg (by omega)]
    exact⟨1,yq (by show 1<=1000;decide)⟩
   exact⟨0,.inr (.inr ⟨z,(0),0,1,hz,first_at h0,O _ H (Same.refl _) k2⟩)⟩
  ·have h0:z.length=0:=by
    rcases Nat.eq_zero_or_pos z.length with e|e
    ·exact e
    ·exact absurd (uc (by omega)) c
   exact O _ H (Same.refl _) (by show Is H (if z.length=0 then D.non else _) _;rw [if_pos h0];rfl)
 |tup xs=>
  have ac:=U;obtain⟨r,rs,rfl,er,ir⟩:=ac;refine⟨0,.inr ⟨r,rs,1,.inr (SqT.of er),λ_=>⟨_,0,1,0,?_⟩⟩⟩;have hl:=ir.length;cases xs with
  |nil=>exact Qi (ue (by rw [hl];decide)) (O _ H (Same.refl _) rfl)
  |cons e es=>
   refine Qy (uc (by rw [hl,ui];omega)) ?_
   exact⟨0,.inr (.inl (JO (i:=0) (d:=e) U (QW (j:=0) rfl) λq hq=>O _ H (Same.refl _) hq))⟩
 |_=>simp [isT,good] at hg
theorem wJ:∀xs:oj D,Jn xs=xs.all isStr
 | []=>rfl
 | .str _::r=>by show Jn r=_;rw [wJ r];rfl
 | .non::_| .bl _::_| .int _::_| .lst::_| .dct::_| .tup _::_=>rfl
theorem strs_map:∀{xs:oj D},Jn xs=true->xs=(Jx xs).map D.str
 | [],_=>rfl
 | .str z::r,h=>by
  show D.str z::r=D.str z::(Jx r).map D.str;rw [<-strs_map (show Jn r=true from h)]
theorem IsL.strs {H:Hp}:∀{l:oj Str}{vs:oj V},L2.IsL H (l.map D.str) vs->vs=l.map V.str
 | [],_,h=>h
 |_::_,_,h=>by
  obtain⟨v,r,rfl,h1,h2⟩:=h;rw [IsL.strs h2,h1.1];rfl
theorem IsL.ofStrs {H:Hp}:∀{l:oj Str},(∀z∈l,z.length<=sizeLine)->L2.IsL H (l.map D.str) (l.map V.str)
 | [],_=>rfl
 |z::l,h=>⟨_,0,⟨1,h z ud⟩,IsL.ofStrs λy O=>h y (ub _ O)⟩
theorem sum_lens:∀(l:oj Str),(l.map (·.length)).sum+l.length=szL (l.map D.str)
 | []=>rfl
 |z::l=>by
  have:=sum_lens l;simp only [uq,Uh,ui,szL,sz];omega
theorem join_le (sep:Str):∀(l:oj Str),(Str.join sep l).length<=(l.map (·.length)).sum+l.length*sep.length
 | []=>uW _
 | [x]=>by simp [Str.join]
 |x::y::r=>by
  have O:=join_le sep (y::r);have e:(Str.join sep (x::y::r)).length=x.length+sep.length+(Str.join sep (y::r)).length:=by
   show((x.cps++sep.cps)++(Str.join sep (y::r)).cps).size=_;rw [Array.size_append,Array.size_append]
   rfl
  rw [e,uq,Uh,ui,Nat.succ_mul];omega
theorem ok_rest (T:Tx K mg a):FnOk P w K mg base CX0 1 a.JN a.Zt ["boxes","own","parts"] (XG "rest"):=by
 refine T.g_rest_made.F.ok XU () (λ_ _ _ _ H _ Q E hr h=> ?_)
 obtain⟨d,t,own,B,ps,n,rfl,hB,hT,ho,aa,U,k⟩:=h;refine⟨_,#[qc,5,#[qC,2,(3),4,XU.nd,rfl,Or.inl rfl,#[QA,6,QU hr,pv 0,#[qL,7,qJ,pv 2,qk,(λ_ _=>rfl)],(λ_ _=>rfl)],_,_],#[qe,3,#[qq,4,#[Q2,8,#[qr,8,op_gt,#[qy,9,jB,_,T.Yl,uJ,#[qb,5,pv 3,qd,_],_,_,_,_],qk,qz _],#[zA,10,sl_any,pv 3,#[zW,3,qk],Wz],qQ]]]],?_⟩
 try dsimp only [cxOf,Cx.nox]
 obtain⟨x,y,rfl,hx,hy⟩:=ZT (QI aa (by decide+kernel))
 refine⟨0,0,?_⟩;refine bget (i:=1) hB U rfl hy λv iv=> ?_;have ly:=YD (hT y hy);have hg:=hT y hy;have O:∀(v:V) (H':Hp),Same H H'->Is H' (restD (B y)) v->Q v H':=k;generalize B y=dy at iv O ly hg⊢;cases dy with
 |str z=>
  obtain⟨rfl,hz⟩:=iv;refine⟨0,.inl ⟨z,1,hz,_,0,1,0,?_⟩⟩;refine ite2 (λc=> ?_) (λc=> ?_)
  ·have h0:1<=z.length:=by have:=uh c;omega
   have k2:Is H (restD (.str z)) (.str (Txt.slice z (some 1) none)):=by
    show Is H (if z.length=0 then D.non else _) _
    rw [if_neg (by omega)]
    exact⟨1,uQ (Txt.slice_le z _ _) hz⟩
   exact⟨0,0,.inl ⟨z,1,hz,O _ H (Same.refl _) k2⟩⟩
  ·have h0:z.length=0:=by
    rcases Nat.eq_zero_or_pos z.length with e|e
    ·exact e
    ·exact absurd (uc (by omega)) c
   exact O _ H (Same.refl _) (by show Is H (if z.length=0 then D.non else _) _;rw [if_pos h0];rfl)
 |tup xs=>
  have ac:=iv;obtain⟨r,rs,rfl,er,ir⟩:=ac;refine⟨0,.inr ⟨r,rs,1,.inr (SqT.of er),λ_=>⟨_,0,1,0,?_⟩⟩⟩;have hl:=ir.length;cases xs with
  |nil=>exact Qi (ue (by rw [hl];decide)) (O _ H (Same.refl _) rfl)
  |cons e es=>
   refine Qy (uc (by rw [hl,ui];omega)) ?_
   obtain⟨v0,r0,rfl,i0,i1⟩:=ir;refine⟨0,0,.inr ⟨r,v0::r0,1,SqT.of er,λh=> ?_,λ_ p U=> ?_⟩⟩
   ·exfalso;have:=h.1;simp [HT.sIx] at this
   ·have e1:cutV (v0::r0) (some 1) none=r0:=by
     rw [show(some (1:Int))=some (((1:Nat)):Int) from rfl,cutV_drop (by simp)]
     rfl
    rw [e1];exact O _ _ (qg U _) (Is.new i1 U)
 |_=>simp [isT,good] at hg
theorem ok_size (T:Tx K mg a):FnOk P w K mg base CX0 1 a.JE a.zK ["boxes","own","parts"] (XG "size"):=by
 refine T.g_size_made.F.ok sc_size_made () (λ_ _ _ _ H _ Q E hr h=> ?_)
 obtain⟨d,t,own,B,ps,n,rfl,hB,hT,ho,O,hp,k⟩:=h;refine⟨_,#[qe,3,#[qq,4,#[qY,9,jC,_,T.zh,Uy,#[qb,5,#[qy,9,jB,_,T.Yl,uJ,#[qb,5,#[QA,6,QU hr,pv 0,#[qL,7,qJ,pv 2,qk,(λ_ _=>rfl)],(λ_ _=>rfl)],qd,_],_,_,_,_],qd,_],_,_,_,_]]],?_⟩
 try dsimp only [cxOf,Cx.nox]
 obtain⟨x,y,rfl,hx,U⟩:=ZT (QI O (by decide+kernel))
 refine⟨0,0,?_⟩;refine bget (i:=1) hB hp rfl U λv iv=> ?_;have ly:=YD (hT y U);have hg:=hT y U;have k':∀(v:V) (H':Hp),Same H H'->Is H' (.str (toString ((lenD (B y):Nat):Int))) v->Q v H':=k;generalize B y=dy at iv k' ly hg⊢;have sm:∀n:Nat,n<=600->((n:Int)).natAbs.log2<1920/\((toString (n:Int):Str)).length<=sizeLine:=by
  intro n hn;have h2:=Nat.log2_le_self ((n:Int)).natAbs;exact⟨by omega,int_text_fits (by omega)⟩
 cases dy with
 |str z=>
  obtain⟨rfl,hz⟩:=iv;have h2:=sm z.length ly;exact .inl ⟨z,1,hz,0,h2.1,k' _ H (Same.refl _) ⟨1,h2.2⟩⟩
 |tup xs=>
  have aa:=iv;obtain⟨r,rs,rfl,er,ir⟩:=aa;have h2:=sm xs.length ly;refine .inr ⟨r,rs,1,.inr (SqT.of er),λ_=>⟨0,?_,?_⟩⟩
  ·rw [ir.length];exact h2.1
  ·rw [ir.length];exact k' _ H (Same.refl _) ⟨1,h2.2⟩
 |_=>simp [isT,good] at hg
theorem ok_cut (T:Tx K mg a):FnOk P w K mg base CX0 1 a.Xw a.wU ["boxes","own","parts"] (XG "cut"):=by
 refine T.g_cut_made.F.ok JL () (λ_ _ _ _ H _ Q E hr h=> ?_)
 obtain⟨d,t,own,B,ps,n,rfl,hB,hT,ho,aa,hp,k⟩:=h;refine⟨_,#[qc,5,#[qC,2,(3),4,JL.nd,rfl,Or.inl rfl,#[QA,6,QU hr,pv 0,#[qL,7,qJ,pv 2,qk,(λ_ _=>rfl)],(λ_ _=>rfl)],_,_],#[qc,5,#[qC,2,(4),4,JL.nd,rfl,Or.inl rfl,#[QA,6,QU hr,pv 0,#[qL,7,qJ,pv 2,qk,(λ_ _=>rfl)],(λ_ _=>rfl)],_,_],#[qc,5,@qI _ _ _ _ _ _ _ _ #[Zm,7,#[Qp,4,#[Qe,3,#[qy,9,#[qM,2,rfl],_,T.qE,uK,#[qb,5,pv 3,#[qb,5,#[QN,2,.ty "str",2,_,T.zh,Uy,rfl,_,_],qd,_],_],_,_,_,_],_]],#[Zm,7,#[Qp,4,#[Qe,3,#[qy,9,#[qM,2,rfl],_,T.qE,uK,#[qb,5,pv 4,#[qb,5,#[QN,2,.ty "str",2,_,T.zh,Uy,rfl,_,_],qd,_],_],_,_,_,_],_]],#[xh,4,#[qr,8,QM,pv 4,qm,qz _]]]].pt #[qe,3,#[qq,4,qQ]] qw,#[qe,3,#[qq,4,#[qY,9,qT,_,T.Qz,vf,#[qb,5,#[jU,12,uO,U3,U4,mt_splitG,pv 3,#[qb,5,pv 4,qd,_],_,_,_,_,_],qd,_],_,_,_,_]]]]]],?_⟩
 try dsimp only [cxOf,Cx.nox]
 obtain⟨x0,x,y,rfl,ac,hx,hy⟩:=sh_bbb (QI aa (by decide+kernel))
 refine⟨0,0,?_⟩;refine bget (i:=1) hB hp rfl hx λv iv=> ?_;refine⟨0,0,?_⟩;refine bget (i:=2) hB hp rfl hy λu iu=> ?_;have lx:=YD (hT x hx);have ly:=YD (hT y hy);have U:∀(v:V) (H':Hp),Same H H'->Is H' (cutD (B x) (B y)) v->Q v H':=k;generalize B x=dx at iv U lx⊢;generalize B y=dy at iu U ly⊢;refine⟨0,v,"str",tyD dx,isStr dx,1,iv.ty,YN _,0,?_⟩;cases dx with
 |str z=>
  refine iteF ⟨0,u,"str",tyD dy,isStr dy,1,iu.ty,YN _,0,?_⟩;cases dy with
  |str O=>
   refine iteF ?_;obtain⟨rfl,_⟩:=iv;obtain⟨rfl,_⟩:=iu;have h1:z.length<=600:=lx;have h2:O.length<=600:=ly;refine⟨0,1,0,?_⟩;refine ite2 (λc=> ?_) (λc=> ?_)
   ·have e:O="":=by have:=uh c;injection this
    subst e;exact U _ H (Same.refl _) rfl
   ·have h3:O.length≠0:=λh=>c (uc (by
     have:O="":=by
      have h4:O.cps= #[]:=Array.eq_empty_of_size_eq_zero h;cases O;simp only at h4;subst h4
      decide+kernel
     rw [this]))
    refine⟨0,1,0,z,O,1,1,by omega,by omega,λp hp=>⟨p,0,.inl ⟨SqL.of qf,λl hl=> ?_⟩⟩⟩
    have s1:Same H (upd H p (.lst ((spG z O).map V.str))):=qg hp _;refine U _ _ (s1.trans (qg hl _)) ?_;show Is _ (if O.length=0 then D.non else .tup ((spG z O).map D.str)) _
    rw [if_neg h3];exact Is.new (IsL.ofStrs λq hq=>yq (by have:=spG_mem hq;omega)) hl
  |_=>exact iteT (U _ H (Same.refl _) rfl)
 |_=>exact iteT (U _ H (Same.refl _) (by cases dy<;>rfl))
theorem ok_glue (T:Tx K mg a):FnOk P w K mg base CX0 1 a.JD a.Zj ["boxes","own","parts"] (XG "glue"):=by
 refine T.g_glue_made.F.ok jQ () (λ_ _ _ _ H _ Q E hr h=> ?_)
 obtain⟨d,t,own,B,ps,n,rfl,hB,hT,ho,ae,hp,k⟩:=h;refine⟨_,#[qc,5,#[qC,2,(3),4,jQ.nd,rfl,Or.inl rfl,#[QA,6,QU hr,pv 0,#[qL,7,qJ,pv 2,qk,(λ_ _=>rfl)],(λ_ _=>rfl)],_,_],#[qc,5,#[qC,2,(4),4,jQ.nd,rfl,Or.inl rfl,#[QA,6,QU hr,pv 0,#[qL,7,qJ,pv 2,qk,(λ_ _=>rfl)],(λ_ _=>rfl)],_,_],#[qc,5,@qI _ _ _ _ _ _ _ _ #[Zm,7,#[Qp,4,#[Qe,3,#[qy,9,#[qM,2,rfl],_,T.qE,uK,#[qb,5,pv 3,#[qb,5,#[QN,2,.ty "tuple",2,_,T.Qz,vf,rfl,_,_],qd,_],_],_,_,_,_],_]],#[xh,4,#[Qp,4,#[Qe,3,#[qy,9,#[qM,2,rfl],_,T.qE,uK,#[qb,5,pv 4,#[qb,5,#[QN,2,.ty "str",2,_,T.zh,Uy,rfl,_,_],qd,_],_],_,_,_,_],_]]]].pt #[qe,3,#[qq,4,qQ]] qw,#[qc,5,#[qI,8,#[Qp,4,#[Qe,3,#[qy,9,#[Zb,1,rfl],_,T.z_all,boot_all,#[qb,5,#[JX,2,["part"],(1),[],9,lcs0,rfl,#[zS,4,pv 3],(λ_ _ _ _ _ _=>#[qO,2,(0),1,(show List.Nodup (["part"]:oj Str) by decide+kernel),rfl,Or.inl rfl,_]),(λ_ _ _ _ _ _=> @Q5 _),(λ_ _ _ _ _ _=>#[qy,9,#[qM,2,rfl],_,T.qE,uK,#[qb,5,pv 0,#[qb,5,#[QN,2,.ty "str",2,_,T.zh,Uy,rfl,_,_],qd,_],_],_,_,_,_]),_],qd,_],_,_,_,_],_]],#[qe,3,#[qq,4,qQ]],qw],#[qe,3,#[qq,4,#[jU,12,uO,vN,vO,mt_joinT,pv 4,#[qb,5,pv 3,qd,_],_,_,_,_,_]]]]]]],?_⟩
 try dsimp only [cxOf,Cx.nox]
 obtain⟨x0,x,y,rfl,ah,hx,hy⟩:=sh_bbb (QI ae (by decide+kernel))
 refine⟨0,0,?_⟩;refine bget (i:=1) hB hp rfl hx λv iv=> ?_;refine⟨0,0,?_⟩;refine bget (i:=2) hB hp rfl hy λu iu=> ?_;have lx:=YD (hT x hx);have hg:=hT x hx;have ly:=YD (hT y hy);have U:∀(v:V) (H':Hp),Same H H'->Is H' (glueD (B x) (B y)) v->Q v H':=k;generalize B x=dx at iv U lx hg⊢;generalize B y=dy at iu U ly⊢;refine⟨0,v,"tuple",tyD dx,xN dx,1,iv.ty,jL _,0,?_⟩;cases dx with
 |tup xs=>
  refine iteF ⟨0,u,"str",tyD dy,isStr dy,1,iu.ty,YN _,0,?_⟩;cases dy with
  |str z2=>
   refine iteF ?_;obtain⟨r,rs,rfl,er,ir⟩:=iv;obtain⟨rfl,_⟩:=iu;have h1:xs.length<=600:=lx;have h2:z2.length<=600:=ly;refine⟨0,r,rs,1,SqT.of er,λak A0 af=> ?_⟩;refine WV (tl:= []) (λd=> .bl (isStr d)) er ir (fits (by omega)) af (λd0 x0 H3 R al s3 i3 q=>⟨0,x0,"str",tyD d0,isStr d0,1,i3.ty,YN _,q _ H3 (Same.refl _) rfl⟩) λH1 ys s1 l1 i1=> ?_
   have ey:ys=(xs.map isStr).map V.bl:=IsL.bls (by rw [uG];exact i1)
   subst ey;refine⟨A0,xs.map isStr,1,SqL.of l1,0,?_⟩;have aa:(xs.map isStr).all id=Jn xs:=by rw [wJ,Up];rfl
   rw [aa];cases O:Jn xs with
   |false=>exact iteT (U _ H1 s1 (by show Is H1 (if Jn xs=true then _ else D.non) _;rw [O];rfl))
   |true=>
    have ac:=strs_map O;have ag:rs=(Jx xs).map V.str:=IsL.strs (by rw [<-ac];exact ir)
    have hsz:=isT_sz hg;have ad:=sum_lens (Jx xs);rw [<-ac] at ad;simp only [sz] at hsz;have am:(Jx xs).length*z2.length<=600*600:=Nat.mul_le_mul (by omega) h2
    have hj:=join_le z2 (Jx xs);refine iteF ⟨0,1,0,z2,r,Jx xs,1,1,SqT.of (by rw [s1 _ _ er,ag]),by omega,?_⟩
    refine U _ H1 s1 ?_;show Is H1 (if Jn xs=true then .str (Str.join z2 (Jx xs)) else D.non) _
    rw [O];exact⟨1,fits (by omega)⟩
  |_=>exact iteT (U _ H (Same.refl _) rfl)
 |_=>exact iteT (U _ H (Same.refl _) (by cases dy<;>rfl))
noncomputable def jump (w:Str)(B:Str->D)(ps:oj Pt):Bool:=if w="like" then eqD (B (b0 ps)) (B (b1 ps)) else if w="rowed" then xN (B (b0 ps)) else if w="none" then decide (lenD (B (b0 ps))=0) else true
def JMP:oj Str:= ["go","like","rowed","none"]
def ASK:oj Str:= ["ask","has","names"]
def flt (w:Str):D:= .tup [.str "fault",.str w]
noncomputable def askF (w:Str)(held:D):D:=if w="names" then(if isStr held=true then .tup [.str "asks",.tup [.str "names",held]] else flt "kind") else if isNm held=true then .tup [.str "asks",.tup [.str (if w="ask" then "thing" else "has"),held]] else flt "name"
def sp_jump:Sp:=λvs H Q _=>∃(d t:o3) (w:Str) (B:Str->D) (ps:oj Pt) (n:Nat),vs= [.ref d,.str w,.ref t]/\yW H d B/\Tr B/\w∈JMP/\jg n 300 (w,ps)/\PtsAt H t ps/\Q (.bl (jump w B ps)) H
def sp_asked:Sp:=λvs H Q _=>∃(w:Str) (v:V) (d:D),vs= [.str w,v]/\w∈ASK/\Is H d v/\∀(u:V) (H':Hp),Same H H'->Is H' (askF w d) u->Q u H'
mutual
theorem good_pu:∀{d:D},good d=true->puD d=true
 | .str _,_=>rfl
 | .tup xs,h=>by
  simp only [good,ur] at h;show puL xs=true;exact goodL_pu h.2
 | .non,h| .bl _,h| .int _,h| .lst,h| .dct,h=>by simp [good] at h
theorem goodL_pu:∀{xs:oj D},goodL xs=true->puL xs=true
 | [],_=>rfl
 |x::r,h=>by
  simp only [goodL,ur] at h;simp only [puL,good_pu h.1,goodL_pu h.2,Bool.and_self]
end
theorem good_tr {d:D}(h:good d=true):trD d=true:=by
 cases d with
 |str z=>rfl
 |tup xs=>exact good_pu (d:= .tup xs) h
 |_=>simp [good] at h
theorem yD {d:D}(h:isT d=true):good d=true:=by
 unfold isT at h;rw [ur,ur] at h;exact h.1.1
theorem isT_tr {d:D}(h:isT d=true):trD d=true:=good_tr (yD h)
theorem ok_jump (T:Tx K mg a):FnOk P w K mg base CX0 1 a.jx a.jr ["boxes","word","parts"] sp_jump:=by
 refine T.g_is_jump_taken.F.ok zk () (λ_ _ _ _ H _ Q E hr h=> ?_)
 obtain⟨d,t,w,B,ps,n,rfl,hB,hT,hw,U,hp,k⟩:=h;refine⟨_,#[qc,5,#[qI,8,#[qr,8,QM,pv 1,qm,qz _],#[qe,3,#[qq,4,#[yo,8,#[op_eqD,1,hr.units],#[QA,6,QU hr,pv 0,#[qL,7,qJ,pv 2,qk,(λ_ _=>rfl)],(λ_ _=>rfl)],#[QA,6,QU hr,pv 0,#[qL,7,qJ,pv 2,qk,(λ_ _=>rfl)],(λ_ _=>rfl)],qz _]]],qw],#[qc,5,#[qI,8,#[qr,8,QM,pv 1,qm,qz _],#[qe,3,#[qq,4,#[qy,9,#[qM,2,rfl],_,T.qE,uK,#[qb,5,#[QA,6,QU hr,pv 0,#[qL,7,qJ,pv 2,qk,(λ_ _=>rfl)],(λ_ _=>rfl)],#[qb,5,#[QN,2,.ty "tuple",2,_,T.Qz,vf,rfl,_,_],qd,_],_],_,_,_,_]]],qw],#[qc,5,#[qI,8,#[qr,8,QM,pv 1,qm,qz _],#[qe,3,#[qq,4,#[yo,8,QM,#[qy,9,jB,_,T.Yl,uJ,#[qb,5,#[QA,6,QU hr,pv 0,#[qL,7,qJ,pv 2,qk,(λ_ _=>rfl)],(λ_ _=>rfl)],qd,_],_,_,_,_],qk,qz _]]],qw],#[qe,3,#[qq,4,YR]]]]],?_⟩
 try dsimp only [cxOf,Cx.nox]
 refine⟨0,1,0,?_⟩;simp only [JMP,uB,uC,uM] at hw;rcases hw with rfl|rfl|rfl|rfl
 ·refine Qi (by decide+kernel) ?_
  refine⟨0,1,0,Qi (by decide+kernel) ?_⟩
  refine⟨0,1,0,Qi (by decide+kernel) ?_⟩
  exact k
 ·refine Qy (by decide+kernel) ?_
  obtain⟨x,y,i,rfl,O,hy,_⟩:=sh_bbl (QI U (by decide+kernel))
  refine⟨0,0,?_⟩;dsimp only [tC];refine bget (i:=0) hB hp rfl O λv iv=> ?_;refine⟨0,0,?_⟩;dsimp only [tC];refine bget (i:=1) hB hp rfl hy λu iu=> ?_;refine⟨B x,B y,iv,iu,isT_tr (hT x O),isT_tr (hT y hy),?_,k⟩
  ·have:=XN (hT x O);omega
 ·refine Qi (by decide+kernel) ?_
  refine⟨0,1,0,Qy (by decide+kernel) ?_⟩
  obtain⟨x,i,rfl,O,_⟩:=sh_bl (QI U (by decide+kernel))
  refine⟨0,0,?_⟩;refine bget (i:=0) hB hp rfl O λv iv=> ?_;exact⟨v,"tuple",tyD (B x),xN (B x),1,iv.ty,jL _,k⟩
 ·refine Qi (by decide+kernel) ?_
  refine⟨0,1,0,Qi (by decide+kernel) ?_⟩
  refine⟨0,1,0,Qy (by decide+kernel) ?_⟩
  obtain⟨x,i,rfl,O,_⟩:=sh_bl (QI U (by decide+kernel))
  refine⟨0,0,?_⟩;refine bget (i:=0) hB hp rfl O λv iv=> ?_;have k':Q (.bl (decide (lenD (B x)=0))) H:=k;have hg:=hT x O;generalize B x=dx at iv k' hg⊢;have hn:∀n:Nat,decide (V.int (n:Int)=V.int 0)=decide (n=0):=λn=>by
   rw [uR];constructor
   ·intro h;injection h with h;omega
   ·rintro rfl;rfl
  cases dx with
  |str z=>
   obtain⟨rfl,hz⟩:=iv;refine .inl ⟨z,1,hz,1,?_⟩;rw [hn];exact k'
  |tup xs=>
   obtain⟨r,rs,rfl,er,ir⟩:=iv;refine .inr ⟨r,rs,1,.inr (SqT.of er),λ_=>⟨1,?_⟩⟩;rw [hn,ir.length];exact k'
  |_=>simp [isT,good] at hg
theorem ok_asked (T:Tx K mg a):FnOk P w K mg base CX0 2 a.jf a.Y6 ["word","held"] sp_asked:=by
 have QQ:=Xg (P:=P) (w:=w) (base:=base) T;refine T.g_asked_or_fault.F.ok Xd () (λ_ _ _ _ H _ Q E hr h=> ?_)
 obtain⟨w,v,d,rfl,hw,iv,k⟩:=h;refine⟨_,#[qc,5,#[qI,8,#[qr,8,QM,pv 0,qm,qz _],#[qe,3,#[qq,4,#[Q2,8,#[Qe,3,#[qy,9,#[qM,2,rfl],_,T.qE,uK,#[qb,5,pv 1,#[qb,5,#[QN,2,.ty "str",2,_,T.zh,Uy,rfl,_,_],qd,_],_],_,_,_,_],_],#[qF,5,#[qb,5,qm,#[qb,5,#[qF,5,#[qb,5,qm,#[qb,5,pv 1,qd,_],_]],qd,_],_]],#[qF,5,#[qb,5,qm,#[qb,5,qm,qd,_],_]]]]],qw],#[qc,5,#[qI,8,#[Qp,4,#[Qe,3,#[qx,16,QQ,hr.mono (),_,T.g_is_name.m,T.g_is_name.F.kp,T.g_is_name.b,.nil,qB,#[qb,5,pv 1,qd,_],_,_,_],_]],#[qe,3,#[qq,4,#[qF,5,#[qb,5,qm,#[qb,5,qm,qd,_],_]]]],qw],#[qe,3,#[qq,4,#[qF,5,#[qb,5,qm,#[qb,5,#[qF,5,#[qb,5,#[Q2,8,#[qr,8,QM,pv 0,qm,qz _],qm,qm],#[qb,5,pv 1,qd,_],_]],qd,_],_]]]]]],?_⟩
 try dsimp only [cxOf,Cx.nox]
 have two:(2:Nat)<=sizeLine:=by decide
 have st:∀{H:Hp} (z:Str),z.length<=100->Is H (.str z) (.str z):=λz hz=>⟨1,yq (by omega)⟩
 have fl:∀(z:Str) (H:Hp) (l:o3),z.length<=100->H l=none->Is (upd H l (.tup [.str "fault",.str z])) (flt z) (.ref l):=λz H l hz U=>Is.new (ds:= [.str "fault",.str z]) ⟨_,0,st _ (by decide),_,0,st _ hz,1⟩ U
 refine⟨0,1,0,?_⟩;by_cases c:w="names"
 ·subst c;refine Qy (by decide+kernel) ?_
  have ea:askF "names" d=if isStr d=true then .tup [.str "asks",.tup [.str "names",d]] else flt "kind":=by unfold askF;rw [if_pos rfl]
  rw [ea] at k;refine⟨0,v,"str",tyD d,isStr d,1,iv.ty,YN _,0,?_⟩;cases hs:isStr d with
  |true=>
   rw [hs] at k;refine iteT ⟨0,two,λl U=>⟨two,λl2 O=> ?_⟩⟩;have t1:Same H (upd H l (.tup [.str "names",v])):=qg U _;refine k _ _ (t1.trans (qg O _)) ?_;exact Is.new (ds:= [.str "asks",.tup [.str "names",d]]) ⟨_,0,st _ (by decide),_,0,Is.new (ds:= [.str "names",d]) ⟨_,0,st _ (by decide),_,0,iv,1⟩ U,1⟩ O
  |false=>
   rw [hs] at k;exact iteF ⟨two,λl U=>k _ _ (qg U _) (fl "kind" H l (by decide) U)⟩
 ·refine Qi (ue λh=>c (by injection h)) ?_
  have ea:askF w d=if isNm d=true then .tup [.str "asks",.tup [.str (if w="ask" then "thing" else "has"),d]] else flt "name":=by unfold askF;rw [if_neg c]
  rw [ea] at k;refine⟨0,v,d,1,iv,λH1 s1=>⟨0,?_⟩⟩;cases hs:isNm d with
  |false=>
   rw [hs] at k;exact iteT ⟨two,λl U=>k _ _ (s1.trans (qg U _)) (fl "name" H1 l (by decide) U)⟩
  |true=>
   rw [hs] at k;refine iteF ⟨0,1,0,?_⟩;have aa:∀z:Str,z.length<=100->z=(if w="ask" then("thing":Str) else "has")->∀l,H1 l=none->∀l2,(upd H1 l (.tup [.str z,v])) l2=none->Q (.ref l2) (upd (upd H1 l (.tup [.str z,v])) l2 (.tup [.str "asks",.ref l])):=by
    intro z hz ez l U l2 O;have t1:Same H1 (upd H1 l (.tup [.str z,v])):=qg U _;refine k _ _ (s1.trans (t1.trans (qg O _))) ?_;rw [<-ez];exact Is.new (ds:= [.str "asks",.tup [.str z,d]]) ⟨_,0,st _ (by decide),_,0,Is.new (ds:= [.str z,d]) ⟨_,0,st _ hz,_,0,iv.mono s1.tk,1⟩ U,1⟩ O
   refine ite2 (λc2=> ?_) (λc2=> ?_)
   ·have e:w="ask":=by have:=uh c2;injection this
    exact⟨0,two,λl U=>⟨two,λl2 O=>aa "thing" (by decide) (by rw [if_pos e]) l U l2 O⟩⟩
   ·have e:w≠"ask":=λe=>c2 (uc (by rw [e]))
    exact⟨0,two,λl U=>⟨two,λl2 O=>aa "has" (by decide) (by rw [if_neg e]) l U l2 O⟩⟩
end
structure Mc where
 (x db dg:o3)
 rs:oj Rw
 own:Str
structure Rn where
 B:Str->D
 p:Int
 n:Nat
 gs:oj D
 th:D
def MTH:oj Str:= ["now","answer","asked","lines","copy","go_on","is_waiting","do_row","hold"]
structure Fl (fs:oj (Str×V))(rv ru:V)(own:Str)(db dg:o3)(place:Int)(done:Nat)(tv:V):Prop where
 rows:fs.lookup ("rows":Str)=some rv
 rule:fs.lookup ("rule":Str)=some ru
 own:fs.lookup ("own":Str)=some (.str own)
 boxes:fs.lookup ("boxes":Str)=some (.ref db)
 place:fs.lookup ("place":Str)=some (.int place)
 done:fs.lookup ("done":Str)=some (.int (done:Int))
 given:fs.lookup ("given":Str)=some (.ref dg)
 there:fs.lookup ("there":Str)=some tv
 meth:∀m∈MTH,fs.lookup m=none
 len:fs.length<=20
theorem Yo {f:Str}{v:V}:∀{fs:oj (Str×V)}{u:V},fs.lookup f=some u->(putF f v fs).length=fs.length
 |(g,x)::r,u,h=>by
  unfold putF;by_cases c:g=f
  ·rw [if_pos c];rfl
  ·rw [if_neg c,ui,ui];have e:(f==g)=false:=by simp;exact λz=>c z.symm
   rw [uZ,e] at h;rw [Yo (u:=u) h]
 | [],u,h=>by simp at h
section
variable {fs:oj (Str×V)}{rv ru:V}{own:Str}{db dg:o3}{place:Int}{done:Nat}{tv:V}
theorem Fl.set_there {u:V}(h:Fl fs rv ru own db dg place done tv):Fl (putF "there" (u) fs) rv ru own db dg place done u:=by
 refine⟨?_,?_,?_,?_,?_,?_,?_,?_,λm hm=> ?_,by rw [Yo h.there];exact h.len⟩
 all_goals rw [qA]
 all_goals first|rw [if_pos rfl]|(rw [if_neg (by decide+kernel)];first|exact h.rows|exact h.rule|exact h.own|exact h.boxes|exact h.place|exact h.done|exact h.given|exact h.there)|(rw [if_neg (λe=>by subst e;revert hm;decide+kernel)];exact h.meth m hm)
theorem Fl.set_place {q:Int}(h:Fl fs rv ru own db dg place done tv):Fl (putF "place" (.int q) fs) rv ru own db dg q done tv:=by
 refine⟨?_,?_,?_,?_,?_,?_,?_,?_,λm hm=> ?_,by rw [Yo h.place];exact h.len⟩
 all_goals rw [qA]
 all_goals first|rw [if_pos rfl]|(rw [if_neg (by decide+kernel)];first|exact h.rows|exact h.rule|exact h.own|exact h.boxes|exact h.place|exact h.done|exact h.given|exact h.there)|(rw [if_neg (λe=>by subst e;revert hm;decide+kernel)];exact h.meth m hm)
theorem Fl.set_done {k:Nat}(h:Fl fs rv ru own db dg place done tv):Fl (putF "done" (.int ((k:Nat):Int)) fs) rv ru own db dg place k tv:=by
 refine⟨?_,?_,?_,?_,?_,?_,?_,?_,λm hm=> ?_,by rw [Yo h.done];exact h.len⟩
 all_goals rw [qA]
 all_goals first|rw [if_pos rfl]|(rw [if_neg (by decide+kernel)];first|exact h.rows|exact h.rule|exact h.own|exact h.boxes|exact h.place|exact h.done|exact h.given|exact h.there)|(rw [if_neg (λe=>by subst e;revert hm;decide+kernel)];exact h.meth m hm)
end
def yI (C:o3)(H:Hp)(m:Mc)(r:Rn):Prop:=
 ∃(dx:o3) (fs:oj (Str×V)) (rv ru tv:V) (gv:oj V),H m.x=some (.ins C dx fs)/\Fl fs rv ru m.own m.db m.dg r.p r.n tv/\Is H (.tup (m.rs.map rowD)) rv/\Is H (JU m.rs) ru/\yW H m.db r.B/\H m.dg=some (.lst gv)/\L2.IsL H r.gs gv/\Is H r.th tv
structure Mv (m:Mc)(H H':Hp):Prop where
 kept:∀b o,H b=some o->b≠m.x->b≠m.db->b≠m.dg->H' b=some o
 tk:Tk H H'
theorem Mv.refl (m:Mc)(H:Hp):Mv m H H:=⟨λ_ _ e _ _ _=>e,Tk.refl H⟩
theorem Mv.trans {m:Mc}{H H1 H2:Hp}(h:Mv m H H1)(h2:Mv m H1 H2):Mv m H H2:=⟨λb o e n1 O U=>h2.kept b o (h.kept b o e n1 O U) n1 O U,h.tk.trans h2.tk⟩
theorem Mv.of {m:Mc}{H H':Hp}(s:Same H H'):Mv m H H':=⟨λb o e _ _ _=>s b o e,s.tk⟩
theorem yI.same {C:o3}{H H':Hp}{m:Mc}{r:Rn}(h:yI C H m r)(s:Same H H'):yI C H' m r:=
 let⟨dx,fs,rv,ru,tv,gv,e,f,i,j,b,g,gl,t⟩:=h;⟨dx,fs,rv,ru,tv,gv,s _ _ e,f,i.mono s.tk,j.mono s.tk,b.same s,s _ _ g,gl.mono s.tk,t.mono s.tk⟩
theorem yW.ne {H:Hp}{x db C dx:o3}{fs:oj (Str×V)}{B:Str->D}(e:H x=some (.ins C dx fs))(h:yW H db B):db≠x:=λz=>by
 obtain⟨f,e2,_⟩:=h;rw [z,e] at e2;cases e2
theorem Q9 {C:o3}{H:Hp}{m:Mc}{r:Rn}{dx:o3}{fs fs':oj (Str×V)}{rv ru tv:V}{O:oj V}(e:H m.x=some (.ins C dx fs))(f:Fl fs' rv ru m.own m.db m.dg r.p r.n tv)(i:Is H (.tup (m.rs.map rowD)) rv)(j:Is H (JU m.rs) ru)(b:yW H m.db r.B)(U:H m.dg=some (.lst O))(gl:L2.IsL H r.gs O)(t:Is H r.th tv):
  yI C (upd H m.x (.ins C dx fs')) m r/\Mv m H (upd H m.x (.ins C dx fs')):=by
 have tk:Tk H (upd H m.x (.ins C dx fs')):=Tk.updI e;have n1:m.db≠m.x:=yW.ne e b;have n2:m.dg≠m.x:=λz=>by rw [z,e] at U;cases U
 exact⟨⟨dx,fs',rv,ru,tv,O,qf,f,i.mono tk,j.mono tk,b.move tk (qh n1),by rw [qh n2];exact U,gl.mono tk,t.mono tk⟩,⟨λc o h a1 _ _=>by rw [qh a1];exact h,tk⟩⟩
def QK:D->Bool
 | .tup (.str w::_)=>decide (w="asks")
 |_=>false
def Th (d:D):Prop:=d= .non∨∃w e,d= .tup [.str w,e]
inductive Out where
 |go (B:Str->D) (p:Int)|stop (e:D)
def Out.B (B:Str->D):Out->Str->D
 | .go B' _=>B'
 | .stop _=>B
def Out.P (p:Int):Out->Int
 | .go _ p'=>p'
 | .stop _=>p
def Out.T:Out->D
 | .go _ _=> .non
 | .stop e=>e
noncomputable def holdO (B:Str->D)(z:Str)(e:D)(p:Int):Out:=match e with
 | .non=> .stop (flt "kind")
 |e=>if isT e=true then .go (setB B z e) (p+1) else .stop (flt "big")
def sp_now (C:o3):Sp:=λvs H Q _=>∃(m:Mc) (r:Rn),vs= [.ref m.x]/\yI C H m r/\∀v,Is H r.th v->Q v H
def sp_asks (C:o3):Sp:=λvs H Q _=>∃(m:Mc) (r:Rn),vs= [.ref m.x]/\yI C H m r/\∀v H',Same H H'->Is H' (.tup r.gs) v->Q v H'
def sp_wait (C:o3):Sp:=λvs H Q _=>∃(m:Mc) (r:Rn),vs= [.ref m.x]/\yI C H m r/\Th r.th/\Q (.bl (QK r.th)) H
def sp_hold (C:o3):Sp:=λvs H Q _=>∃(m:Mc) (r:Rn) (z:Str) (v:V) (e:D),vs= [.ref m.x,.str z,v]/\yI C H m r/\r.th= .non/\z∈BX/\Is H e v/\
 ∀H',Mv m H H'->yI C H' m ⟨(holdO r.B z e r.p).B r.B,(holdO r.B z e r.p).P r.p,r.n,r.gs,(holdO r.B z e r.p).T⟩->Q .non H'
section
variable {P:o9}{w:og}{K:o0}{mg:Str->om o6}{base:o8}{a:Ad}{g:Ga}
theorem ok_now (T:Tx K mg a):FnOk P w K mg base CX0 1 a.xF a.xw ["self"] (sp_now a.ql):=by
 refine T.g_Machine_now.F.ok Z3 () (λ_ _ _ _ H _ Q E O h=> ?_)
 obtain⟨m,r,rfl,⟨dx,fs,rv,ru,tv,U,e,f,ir,iu,ib,hg,gl,it⟩,k⟩:=h;refine⟨_,#[qe,3,#[qq,4,#[qG,5,pv 0,rfl]]],?_⟩
 try dsimp only [cxOf,Cx.nox]
 exact⟨0,m.x,_,dx,fs,tv,1,e,T.qp,T.qD,f.there,k _ it⟩
theorem ok_asks (T:Tx K mg a):FnOk P w K mg base CX0 1 a.jo a.jG ["self"] (sp_asks a.ql):=by
 refine T.g_Machine_asked.F.ok zl () (λ_ _ _ _ H _ Q E hr h=> ?_)
 obtain⟨m,r,rfl,⟨dx,fs,rv,ru,tv,U,e,f,ir,iu,ib,hg,gl,it⟩,k⟩:=h;refine⟨_,#[qe,3,#[qq,4,#[qY,9,qT,_,T.Qz,vf,#[qb,5,#[qG,5,pv 0,rfl],qd,_],_,_,_,_]]],?_⟩
 try dsimp only [cxOf,Cx.nox]
 exact⟨0,m.x,_,dx,fs,0,e,T.qp,T.Ya,f.given,m.dg,U,1,.inl ⟨SqL.of hg,λl O=>k _ _ (qg O _) (Is.new gl O)⟩⟩
theorem ok_wait (T:Tx K mg a):FnOk P w K mg base CX0 1 a.yS a.yU ["self"] (sp_wait a.ql):=by
 refine T.g_Machine_is_waiting.F.ok jX () (λ_ _ _ _ H _ Q E hr h=> ?_)
 obtain⟨m,⟨B,p,n,gs,th⟩,rfl,⟨dx,fs,rv,ru,tv,gv,e,f,ir,iu,ib,hg,gl,it⟩,O,k⟩:=h;simp only at f ib gl it O k;refine⟨_,#[qe,3,#[qq,4,#[wp,7,#[yo,8,op_notN,#[qG,5,pv 0,rfl],qQ,qz _],#[XJ,5,#[yo,8,QM,#[qL,7,Jt,#[qG,5,pv 0,rfl],qk,(λ_ _=>rfl)],qm,qz _]]]]],?_⟩
 try dsimp only [cxOf,Cx.nox]
 refine⟨0,m.x,_,dx,fs,tv,1,e,T.qp,T.qD,f.there,1,?_⟩;rcases O with rfl|⟨w1,e1,rfl⟩
 ·cases(show tv= .non from it)
  exact⟨0,Qi (by decide+kernel) k⟩
 ·have U:=it;obtain⟨t0,us,rfl,et,iu⟩:=U;refine⟨0,Qy (by simp) ⟨0,m.x,_,dx,fs,0,e,T.qp,T.qD,f.there,?_⟩⟩
  refine .inr (.inl (JO (i:=0) (d:= .str w1) it (QW (j:=0) rfl) λq hq=> ?_));obtain⟨rfl,_⟩:=hq;refine⟨1,?_⟩;have ew:decide (V.str w1=V.str ("asks":Str))=decide (w1="asks"):=by
   rw [uR];exact⟨λh=>by injection h,λh=>by rw [h]⟩
  rw [ew];exact k
theorem ok_hold (T:Tx K mg a):FnOk P w K mg base CX0 3 a.Jo a.Jr ["self","box","tree"] (sp_hold a.ql):=by
 have ye:=YJ (P:=P) (w:=w) (base:=base) T;refine T.g_Machine_hold.F.ok zE () (λ_ _ _ _ H _ Q E hr h=> ?_)
 obtain⟨m,⟨B,p,n,gs,th⟩,z,v,d,rfl,⟨dx,fs,rv,ru,tv,gv,e,f,ir,iu,ib,hg,gl,it⟩,ac,hz,O,k⟩:=h;simp only at f ib gl it ac k;subst ac;refine⟨_,#[qe,3,#[qI,8,#[qr,8,yT,pv 2,qQ,qz _],#[qe,3,#[qX,8,pv 0,#[qF,5,#[qb,5,qm,#[qb,5,qm,qd,_],_]],rfl]],#[qe,3,#[qI,8,#[Qp,4,#[Qe,3,#[qx,16,ye,hr.mono (),_,T.g_is_tree.m,T.g_is_tree.F.kp,T.g_is_tree.b,.nil,qB,#[qb,5,pv 2,qd,_],_,_,_],_]],#[qe,3,#[qX,8,pv 0,#[qF,5,#[qb,5,qm,#[qb,5,qm,qd,_],_]],rfl]],#[qc,5,#[xa,9,QU hr,#[qG,5,pv 0,rfl],pv 1,pv 2,rfl],#[qe,3,#[jN,10,pv 0,qk,in_add]]]]]]],?_⟩
 try dsimp only [cxOf,Cx.nox]
 have two:(2:Nat)<=sizeLine:=by decide
 have st:∀{H:Hp} (z:Str),z.length<=100->Is H (.str z) (.str z):=λz hz=>⟨1,yq (by omega)⟩
 have fl:∀(z:Str) (H:Hp) (l:o3),z.length<=100->H l=none->Is (upd H l (.tup [.str "fault",.str z])) (flt z) (.ref l):=λz H l hz U=>Is.new (ds:= [.str "fault",.str z]) ⟨_,0,st _ (by decide),_,0,st _ hz,1⟩ U
 refine⟨0,1,0,?_⟩;have aa:fs.length<1000:=by have:=f.len;omega
 by_cases c:d= .non
 ·subst c;cases(show v= .non from O)
  refine Qy (by decide+kernel) ⟨two,λl U=> ?_⟩
  have s1:Same H (upd H l (.tup [.str "fault",.str "kind"])):=qg U _;refine⟨0,m.x,_,dx,fs,1,s1 _ _ e,T.qp,T.qD,aa,?_⟩;obtain⟨m1,m2⟩:=Q9 (r:=⟨B,p,n,gs,flt "kind"⟩) (s1 _ _ e) (f.set_there (u:= .ref l)) (ir.mono s1.tk) (iu.mono s1.tk) (ib.same s1) (s1 _ _ hg) (gl.mono s1.tk) (fl "kind" H l (by decide) U)
  exact k _ ((Mv.of s1).trans m2) m1
 ·have hv:v≠ .non:=by
   rintro rfl;cases d with
   |non=>exact c rfl
   |bl b=>cases(show V.non= .bl b from O)
   |int i=>cases(show V.non= .int i from O)
   |str z=>obtain⟨h,_⟩:=O;cases h
   |lst=>obtain⟨_,_,h,_⟩:=O;cases h
   |dct=>obtain⟨_,_,h,_⟩:=O;cases h
   |tup xs=>obtain⟨_,_,h,_⟩:=O;cases h
  have eo:holdO B z d p=if isT d=true then .go (setB B z d) (p+1) else .stop (flt "big"):=by
   cases d with
   |non=>exact absurd rfl c
   |_=>rfl
  rw [eo] at k;refine Qi (ue hv) ?_;refine⟨0,v,d,1,O,λH1 s1=>⟨0,?_⟩⟩;cases ht:isT d with
  |false=>
   rw [ht] at k;refine iteT ⟨two,λl U=> ?_⟩;have s2:Same H (upd H1 l (.tup [.str "fault",.str "big"])):=s1.trans (qg U _);refine⟨0,m.x,_,dx,fs,1,s2 _ _ e,T.qp,T.qD,aa,?_⟩;obtain⟨m1,m2⟩:=Q9 (r:=⟨B,p,n,gs,flt "big"⟩) (s2 _ _ e) (f.set_there (u:= .ref l)) (ir.mono s2.tk) (iu.mono s2.tk) (ib.same s2) (s2 _ _ hg) (gl.mono s2.tk) (fl "big" H1 l (by decide) U)
   exact k _ ((Mv.of s2).trans m2) m1
  |true=>
   rw [ht] at k;refine iteF ?_;have ae:=O.mono s1.tk;obtain⟨kvs,ad,af,t2⟩:=(ib.same s1).put hz ae;have n1:m.db≠m.x:=yW.ne e ib;have n3:m.dg≠m.db:=λz=>by
    obtain⟨ff,e2,_⟩:=ib;rw [z,e2] at hg;cases hg
   have e1:=s1 _ _ e;have e3:(upd H1 m.db (.dK kvs)) m.x=some (.ins a.ql dx fs):=by rw [qh n1.symm];exact e1
   refine⟨0,0,m.x,_,dx,fs,0,e1,T.qp,T.Qn,f.boxes,0,m.db,0,ad,?_⟩;refine⟨0,m.x,_,dx,fs,0,e3,T.qp,T.Qc,f.place,p,(1),1,1,dx,fs,e3,aa,?_⟩;obtain⟨m1,m2⟩:=Q9 (r:=⟨setB B z d,p+1,n,gs,.non⟩) e3 (f.set_place (q:=p+1)) ((ir.mono s1.tk).mono t2) ((iu.mono s1.tk).mono t2) af (by rw [qh n3];exact s1 _ _ hg) ((gl.mono s1.tk).mono t2) it
   exact k _ ((Mv.of s1).trans (Mv.trans ⟨λb o h _ a2 _=>by rw [qh a2];exact h,t2⟩ m2)) m1
def MKR:oj Str:= ["text","self","copy","row","put","join","first","rest","size","cut","glue"]
noncomputable def lineNo (ps:oj Pt):Int:=match ps.getLast? with
 |some (.n i)=>i
 |_=>0
noncomputable def rowO (own:Str)(r:Rw)(B:Str->D)(p:Int):Out:=
 if r.1∈MKR then holdO B (b0 r.2) (made r.1 B own r.2) p else if r.1∈ASK then .stop (askF r.1 (B (b1 r.2))) else if r.1="say" then .stop (.tup [.str "said",B (b0 r.2)]) else
 if r.1="fault" then .stop (flt "told") else if jump r.1 B r.2=true then .go B (lineNo r.2) else .go B (p+1)
theorem frm_mk:∀x∈FRM,x.1∈MKR->x.2.head? =some .box:=by decide+kernel
theorem Zf:∀x∈FRM,x.1∈ASK->x.1∉MKR/\x.1∈NOMK/\x.2= [.box,.box]:=by decide+kernel
theorem frm_say:∀x∈FRM,x.1="say"->x.2= [.box]:=by decide+kernel
theorem frm_all:∀x∈FRM,x.1∈MKR∨(x.1∉MKR/\x.1∈NOMK/\(x.1∈ASK∨x.1∉ASK/\(x.1="say"∨x.1="fault"∨x.1≠"say"/\x.1≠"fault"/\x.1∈JMP))):=by decide+kernel
theorem frm_jmp:∀x∈FRM,x.1∈JMP->x.2.getLast? =some .line:=by decide+kernel
theorem mk_b0 {n m:Nat}{r:Rw}(h:jg n m r)(U:r.1∈MKR):∃z ps,r.2= .s z::ps/\z∈BX:=by
 obtain⟨ks,hk,O⟩:=h;have:=frm_mk _ hk U
 match ks,O,this with
 | .box::ks,O,_=>
  match h2:r.2,O with
  | .s z::ps,O=>exact⟨z,ps,1,O.1⟩
  | .n _::_,O=>exact O.1.elim
theorem wl {n m:Nat}:∀{ks:oj Kd}{ps:oj Pt},JV n m ks ps->ks.getLast? =some .line->∃qs i,ps=qs++ [.n i]/\1<=i/\i<=(n:Int)
 | [k],[p],h,e=>by
  cases e;cases p with
  |n i=>exact⟨[],i,1,h.1⟩
  |s z=>exact h.1.elim
 |k::k2::ks,p::p2::ps,h,e=>by
  rw [Uz] at e;obtain⟨qs,i,e2,hi⟩:=wl (ks:=k2::ks) (ps:=p2::ps) h.2 e;exact⟨p::qs,i,by rw [e2];rfl,hi⟩
 | [k],p::_::_,h,_=>h.2.elim
 |k::_::_,[p],h,_=>h.2.elim
 | [],[],_,e=>by cases e
 | [],_::_,h,_=>h.elim
 |_::_,[],h,_=>h.elim
theorem jmp_last {n m:Nat}{r:Rw}(h:jg n m r)(O:r.1∈JMP):∃qs i,r.2=qs++ [.n i]/\1<=i/\i<=(n:Int)/\lineNo r.2=i:=by
 obtain⟨ks,U,hp⟩:=h;obtain⟨qs,i,e,h1,h2⟩:=wl hp (frm_jmp _ U O);refine⟨qs,i,e,h1,h2,?_⟩;unfold lineNo;rw [e,List.getLast?_concat]
def sp_dorow (C:o3):Sp:=λvs H Q _=>∃(m:Mc) (r:Rn) (rw:Rw) (v:V) (k:Nat),vs= [.ref m.x,v]/\yI C H m r/\r.th= .non/\Tr r.B/\m.own.length<=100/\jg k 300 rw/\Is H (rowD rw) v/\
 ∀H',Mv m H H'->yI C H' m ⟨(rowO m.own rw r.B r.p).B r.B,(rowO m.own rw r.B r.p).P r.p,r.n,r.gs,(rowO m.own rw r.B r.p).T⟩->Q .non H'
theorem mk_of (T:Tx K mg a)(C:Fx K w mg g a){x:Str}(h:x∈MKR):∃f fd,PySem.W.nsIn K g.makers x=some (some (.ref f))/\FnOk P w K mg base CX0 1 f fd ["boxes","own","parts"] (XG x)/\J5 K fd ["boxes","own","parts"] []/\PySem.W.keepIn K (.ref f)=true:=by
 simp only [MKR,uB,uC,uM] at h;rcases h with rfl|rfl|rfl|rfl|rfl|rfl|rfl|rfl|rfl|rfl|rfl
 ·exact⟨_,_,C.k_text,ok_text T,T.g_text_made.b,T.g_text_made.F.kp⟩
 ·exact⟨_,_,C.k_self,ok_self T,T.g_self_made.b,T.g_self_made.F.kp⟩
 ·exact⟨_,_,C.k_copy,ok_copy T,T.g_copy_made.b,T.g_copy_made.F.kp⟩
 ·exact⟨_,_,C.k_row,ok_row T,T.g_row_made.b,T.g_row_made.F.kp⟩
 ·exact⟨_,_,C.k_put,ok_put T,T.g_put_made.b,T.g_put_made.F.kp⟩
 ·exact⟨_,_,C.k_join,ok_join T,T.g_join_made.b,T.g_join_made.F.kp⟩
 ·exact⟨_,_,C.k_first,ok_first T,T.g_first_made.b,T.g_first_made.F.kp⟩
 ·exact⟨_,_,C.k_rest,ok_rest T,T.g_rest_made.b,T.g_rest_made.F.kp⟩
 ·exact⟨_,_,C.k_size,ok_size T,T.g_size_made.b,T.g_size_made.F.kp⟩
 ·exact⟨_,_,C.k_cut,ok_cut T,T.g_cut_made.b,T.g_cut_made.F.kp⟩
 ·exact⟨_,_,C.k_glue,ok_glue T,T.g_glue_made.b,T.g_glue_made.F.kp⟩
theorem ok_dorow (T:Tx K mg a)(C:Fx K w mg g a):FnOk P w K mg base CX0 4 a.jc a.Y9 ["self","row"] (sp_dorow a.ql):=by
 have zQ:=ok_jump (P:=P) (w:=w) (base:=base) T;have zn:=ok_asked (P:=P) (w:=w) (base:=base) T;have Z9:=ok_hold (P:=P) (w:=w) (base:=base) T;refine T.g_Machine_do_row.F.ok yw () (λ_ _ _ _ H _ Q E hr h=> ?_)
 obtain⟨m,⟨B,p,n,gs,th⟩,r,v,nn,rfl,M,ag,hT,ho,ae,iv,k⟩:=h;simp only at ag hT k;subst ag;refine⟨_,#[qc,5,#[qC,2,(2),4,yw.nd,rfl,Or.inl rfl,#[qL,7,qJ,pv 1,qk,(λ_ _=>rfl)],_,_],#[qc,5,#[qC,2,(3),4,yw.nd,rfl,Or.inl rfl,#[qL,7,qJ,pv 1,qk,(λ_ _=>rfl)],_,_],#[qe,3,#[qI,8,#[qr,8,op_inK,pv 2,#[zm,4,_,C.m_MAKERS,_],(by with_unfolding_all rfl)],#[qe,3,#[qU,4,#[Qr,20,pv 0,T.qp,T.g_Machine_hold.h,Z9,hr.mono (),T.g_Machine_hold.b,.nil,qB,#[qb,5,#[qL,7,qJ,pv 3,qk,(λ_ _=>rfl)],#[qb,5,#[pe_callX,9,(1),5,⟨1,1,1,1,1⟩,#[qL,7,ix_K,#[zm,4,_,C.m_MAKERS,_],pv 2,(λ_ _=>rfl)],hr.mono (),#[qb,5,#[qG,5,pv 0,rfl],#[qb,5,#[qG,5,pv 0,rfl],#[qb,5,pv 3,qd,_],_],_],_,_],qd,_],_],_,_,_],_]],#[qe,3,#[qI,8,#[qr,8,QR,pv 2,#[zm,4,_,C.m_ASKING,_],(by with_unfolding_all rfl)],#[qe,3,#[qX,8,pv 0,#[qx,16,zn,hr.mono (),_,T.g_asked_or_fault.m,T.g_asked_or_fault.F.kp,T.g_asked_or_fault.b,.nil,qB,#[qb,5,pv 2,#[qb,5,#[QA,6,QU hr,#[qG,5,pv 0,rfl],#[qL,7,qJ,pv 3,qk,(λ_ _=>rfl)],(λ_ _=>rfl)],qd,_],_],_,_,_],rfl]],#[qe,3,#[qI,8,#[qr,8,QM,pv 2,qm,qz _],#[qe,3,#[qX,8,pv 0,#[qF,5,#[qb,5,qm,#[qb,5,#[QA,6,QU hr,#[qG,5,pv 0,rfl],#[qL,7,qJ,pv 3,qk,(λ_ _=>rfl)],(λ_ _=>rfl)],qd,_],_]],rfl]],#[qe,3,#[qI,8,#[qr,8,QM,pv 2,qm,qz _],#[qe,3,#[qX,8,pv 0,#[qF,5,#[qb,5,qm,#[qb,5,qm,qd,_],_]],rfl]],#[qe,3,#[qI,8,#[Qe,3,#[qx,16,zQ,hr.mono (),_,T.g_is_jump_taken.m,T.g_is_jump_taken.F.kp,T.g_is_jump_taken.b,.nil,qB,#[qb,5,#[qG,5,pv 0,rfl],#[qb,5,pv 2,#[qb,5,pv 3,qd,_],_],_],_,_,_],_],#[qe,3,#[qX,8,pv 0,#[qL,7,qJ,pv 3,#[pe_un,6,un_neg,qk],(λ_ _=>rfl)],rfl]],#[qe,3,#[jN,10,pv 0,qk,in_add]]]]]]]]]]]]]],?_⟩
 try dsimp only [cxOf,Cx.nox]
 have two:(2:Nat)<=sizeLine:=by decide
 obtain⟨U,ps⟩:=r;obtain⟨t0,us,rfl,et,iu⟩:=iv;obtain⟨v1,u1,rfl,⟨rfl,au⟩,v2,u2,rfl,i2,e2⟩:=iu;cases(show u2= [] from e2)
 refine⟨0,t0,_,(0),0,1,SqT.of et,1,?_⟩;refine⟨0,t0,_,(1),0,1,SqT.of et,1,?_⟩;obtain⟨t1,aw,rfl,ax,ay⟩:=id i2;have ad:PtsAt H t1 ps:=i2;have am:=ae;obtain⟨ks,hk,hp⟩:=am;have hM:=M;obtain⟨dx,fs,rv,ru,tv,gv,e,f,ir,ij,ib,hg,gl,it⟩:=hM;simp only at f ib gl it;have af:fs.length<1000:=by have:=f.len;omega
 rcases frm_all _ hk with aa|⟨aa,ao,ac⟩
 ·obtain⟨fa,fd,hn,hF,hb,ap⟩:=mk_of (P:=P) (base:=base) T C aa;obtain⟨z,qs,rfl,aq⟩:=mk_b0 ae aa;have eo:rowO m.own (U,.s z::qs) B p=holdO B z (made U B m.own (.s z::qs)) p:=by unfold rowO;rw [if_pos aa];rfl
  rw [eo] at k;refine⟨0,U,g.makers,0,1,C.km,hn,0,?_⟩;refine iteT ?_;refine⟨0,m.x,dx,fs,1,e,f.meth _ (by decide+kernel),0,?_⟩
  dsimp only [tC];refine box_at (i:=0) ad rfl ?_;refine⟨0,U,g.makers,_,.ref fa,1,1,C.km,hn,1,fa,fd,_,XG U,1,hF,hb,ap,?_⟩;refine⟨0,m.x,_,dx,fs,0,e,T.qp,T.Qn,f.boxes,0,m.x,_,dx,fs,0,e,T.qp,T.xk,f.own,0,?_⟩;refine⟨m.db,t1,m.own,B,.s z::qs,nn,1,ib,hT,ho,ae,ad,λv H1 s1 hv=> ?_⟩;exact⟨m,⟨B,p,n,gs,.non⟩,z,v,0,M.same s1,1,aq,hv,λH2 m2 M2=>k H2 ((Mv.of s1).trans m2) M2⟩
 ·refine⟨0,U,g.makers,0,1,C.km,C.k_no _ ao,0,?_⟩;refine iteF ?_;refine⟨0,g.asking,0,.inr (C.asking _),1,1,0,?_⟩;have ei:inV (.str U) [.str "ask",.str "has",.str "names"]=decide (U∈ASK):=ZA (z:=U) (l:=ASK);rw [if_neg u8,ei];rcases ac with O|⟨O,ac⟩
  ·refine Qy (uc O) ?_;obtain⟨_,_,ek⟩:=Zf _ hk O;simp only at ek;subst ek;obtain⟨z0,z1,rfl,h0,h1⟩:=ZT hp;have eo:rowO m.own (U,[.s z0,.s z1]) B p= .stop (askF U (B z1)):=by unfold rowO;rw [if_neg aa,if_pos O];rfl
   rw [eo] at k;refine⟨0,0,m.x,_,dx,fs,0,e,T.qp,T.Qn,f.boxes,0,?_⟩;dsimp only [tC];refine bget (i:=1) ib ad rfl h1 λv hv=> ?_;refine⟨U,v,B z1,1,O,hv,λu H1 s1 hu=> ?_⟩;refine⟨0,m.x,_,dx,fs,1,s1 _ _ e,T.qp,T.qD,af,?_⟩;obtain⟨m1,m2⟩:=Q9 (r:=⟨B,p,n,gs,askF U (B z1)⟩) (s1 _ _ e) (f.set_there (u:=u)) (ir.mono s1.tk) (ij.mono s1.tk) (ib.same s1) (s1 _ _ hg) (gl.mono s1.tk) hu;exact k _ ((Mv.of s1).trans m2) m1
  ·refine Qi (ue O) ?_;refine⟨0,1,0,?_⟩;have es:∀y:Str,decide (V.str U=V.str y)=decide (U=y):=λy=>by
    rw [uR];exact⟨λh=>by injection h,λh=>by rw [h]⟩
   rcases ac with rfl|rfl|⟨hs,hf,hj⟩
   ·refine Qy (uc rfl) ?_;have ek:=frm_say _ hk rfl;simp only at ek;subst ek;obtain⟨z0,rfl,h0⟩:=sh_b hp;have eo:rowO m.own ("say",[.s z0]) B p= .stop (.tup [.str "said",B z0]):=by unfold rowO;rw [if_neg aa,if_neg O,if_pos rfl];rfl
    rw [eo] at k;refine⟨0,m.x,_,dx,fs,0,e,T.qp,T.Qn,f.boxes,0,?_⟩;dsimp only [tC];refine bget (i:=0) ib ad rfl h0 λv hv=> ?_;refine⟨two,λl hl=> ?_⟩;have s1:Same H (upd H l (.tup [.str "said",v])):=qg hl _;refine⟨0,m.x,_,dx,fs,1,s1 _ _ e,T.qp,T.qD,af,?_⟩;obtain⟨m1,m2⟩:=Q9 (r:=⟨B,p,n,gs,.tup [.str "said",B z0]⟩) (s1 _ _ e) (f.set_there (u:= .ref l)) (ir.mono s1.tk) (ij.mono s1.tk) (ib.same s1) (s1 _ _ hg) (gl.mono s1.tk) (Is.new (ds:= [.str "said",B z0]) ⟨_,0,⟨1,yq (by decide)⟩,_,0,hv,1⟩ hl)
    exact k _ ((Mv.of s1).trans m2) m1
   ·have ah:¬(("fault":Str)="say"):=by decide+kernel
    refine Qi (ue λh=>ah (by injection h)) ?_
    refine⟨0,1,0,Qy (uc rfl) ?_⟩;have eo:rowO m.own ("fault",ps) B p= .stop (flt "told"):=by unfold rowO;rw [if_neg aa,if_neg O,if_neg ah,if_pos rfl]
    rw [eo] at k;refine⟨two,λl hl=> ?_⟩;have s1:Same H (upd H l (.tup [.str "fault",.str "told"])):=qg hl _;refine⟨0,m.x,_,dx,fs,1,s1 _ _ e,T.qp,T.qD,af,?_⟩;obtain⟨m1,m2⟩:=Q9 (r:=⟨B,p,n,gs,flt "told"⟩) (s1 _ _ e) (f.set_there (u:= .ref l)) (ir.mono s1.tk) (ij.mono s1.tk) (ib.same s1) (s1 _ _ hg) (gl.mono s1.tk) (Is.new (ds:= [.str "fault",.str "told"]) ⟨_,0,⟨1,yq (by decide)⟩,_,0,⟨1,yq (by decide)⟩,1⟩ hl)
    exact k _ ((Mv.of s1).trans m2) m1
   ·refine Qi (by rw [es];exact ue hs) ?_
    refine⟨0,1,0,Qi (by rw [es];exact ue hf) ?_⟩
    have eo:rowO m.own (U,ps) B p=if jump U B ps=true then .go B (lineNo ps) else .go B (p+1):=by unfold rowO;rw [if_neg aa,if_neg O,if_neg hs,if_neg hf]
    rw [eo] at k;obtain⟨qs,i,ak,h1,h2,hl⟩:=jmp_last ae hj;simp only at ak hl;refine⟨0,m.x,_,dx,fs,0,e,T.qp,T.Qn,f.boxes,0,0,m.db,t1,U,B,ps,nn,1,ib,hT,hj,ae,ad,0,?_⟩;cases al:jump U B ps with
    |true=>
     rw [al] at k;refine iteT ⟨0,(1),1,?_⟩;refine JO (i:= -1) (d:= .int i) ad (by rw [ak,uu];exact W6 _ _) λq hq=> ?_
     cases(show q= .int i from hq)
     refine⟨0,m.x,_,dx,fs,1,e,T.qp,T.Qc,af,?_⟩;obtain⟨m1,m2⟩:=Q9 (r:=⟨B,i,n,gs,.non⟩) e (f.set_place (q:=i)) ir ij ib hg gl it;refine k _ m2 ?_;show yI _ _ _ ⟨B,lineNo ps,n,gs,.non⟩;rw [hl];exact m1
    |false=>
     rw [al] at k;refine iteF ⟨0,m.x,_,dx,fs,0,e,T.qp,T.Qc,f.place,p,(1),1,1,dx,fs,e,af,?_⟩;obtain⟨m1,m2⟩:=Q9 (r:=⟨B,p+1,n,gs,.non⟩) e (f.set_place (q:=p+1)) ir ij ib hg gl it;exact k _ m2 m1
def jR (rs:oj Rw)(p:Int):Rw:=rs.getD (p.toNat-1) ("fault",[])
noncomputable def runS (rs:oj Rw)(own:Str)(gs:oj D):Nat->(Str->D)->Int->Nat->Rn
 |0,B,p,n=>⟨B,p,n,gs,if p>rs.length then flt "silent" else flt "long"⟩
 |f+1,B,p,n=>if p>rs.length then⟨B,p,n,gs,flt "silent"⟩ else match rowO own (jR rs p) B p with
  | .go B' p'=>runS rs own gs f B' p' (n+1)
  | .stop e=>⟨B,p,if QK e=true then n else n+1,gs,e⟩
theorem row_at {rs:oj Rw}{p:Int}(h1:1<=p)(h2:p<=rs.length):rs[p.toNat-1]? =some (jR rs p):=by
 unfold jR;have h:p.toNat-1<rs.length:=by omega
 simp [List.getD,h]
theorem Wp {rs:oj Rw}{p:Int}(h1:1<=p)(h2:p<=rs.length):jR rs p∈rs:=uS (row_at h1 h2)
theorem Wq {B:Str->D}{z:Str}{e:D}(h:Tr B)(O:isT e=true):Tr (setB B z e):=λy U=>by
 unfold setB;by_cases c:y=z
 ·rw [if_pos c];exact O
 ·rw [if_neg c];exact h y U
def OutOk (n:Int):Out->Prop
 | .go B p=>Tr B/\1<=p/\p<=n+1
 | .stop e=>∃w d,e= .tup [.str w,d]
theorem holdO_ok {B:Str->D}{z:Str}{e:D}{p n:Int}(h:Tr B)(h1:1<=p)(h2:p<=n):OutOk n (holdO B z e p):=by
 have O:OutOk n (if isT e=true then .go (setB B z e) (p+1) else .stop (flt "big")):=by
  by_cases c:isT e=true
  ·rw [if_pos c];exact⟨Wq h c,by omega,by omega⟩
  ·rw [if_neg c];exact⟨_,0⟩
 cases e with
 |non=>exact⟨_,0⟩
 |_=>exact O
theorem askF_ok (w:Str)(d:D):∃u e,askF w d= .tup [.str u,e]:=by
 unfold askF;split
 ·split
  ·exact⟨_,0⟩
  ·exact⟨_,0⟩
 ·split
  ·exact⟨_,0⟩
  ·exact⟨_,0⟩
theorem rowO_ok {own:Str}{n:Nat}{r:Rw}{B:Str->D}{p:Int}(hr:jg n 300 r)(h:Tr B)(h1:1<=p)(h2:p<=n):OutOk n (rowO own r B p):=by
 unfold rowO;by_cases O:r.1∈MKR
 ·rw [if_pos O];exact holdO_ok h h1 h2
 rw [if_neg O];by_cases U:r.1∈ASK
 ·rw [if_pos U];exact askF_ok _ _
 rw [if_neg U];by_cases c3:r.1="say"
 ·rw [if_pos c3];exact⟨_,0⟩
 rw [if_neg c3];by_cases c4:r.1="fault"
 ·rw [if_pos c4];exact⟨_,0⟩
 rw [if_neg c4];by_cases c5:jump r.1 B r.2=true
 ·rw [if_pos c5];obtain⟨ks,hk,hp⟩:=id hr;have hj:r.1∈JMP:=by
   rcases frm_all _ hk with q|⟨_,_,q|⟨_,q|q|q⟩⟩
   ·exact absurd q O
   ·exact absurd q U
   ·exact absurd q c3
   ·exact absurd q c4
   ·exact q.2.2
  obtain⟨qs,i,_,a1,a2,a3⟩:=jmp_last hr hj;exact⟨h,by rw [a3];exact a1,by rw [a3];omega⟩
 ·rw [if_neg c5];exact⟨h,by omega,by omega⟩
def sp_goon (C:o3):Sp:=λvs H Q _=>∃(m:Mc) (r:Rn),vs= [.ref m.x]/\yI C H m r/\r.th= .non/\Tr r.B/\m.own.length<=100/\QY m.rs/\1<=r.p/\r.p<=m.rs.length+1/\r.n<=300/\
 ∀(H':Hp),Mv m H H'->yI C H' m (runS m.rs m.own r.gs (300-r.n) r.B r.p r.n)->Q .non H'
theorem ok_goon (T:Tx K mg a)(C:Fx K w mg g a):FnOk P w K mg base CX0 5 a.jA a.jF ["self"] (sp_goon a.ql):=by
 have zj:=ok_dorow (P:=P) (w:=w) (base:=base) T C;have Qg:=ok_wait (P:=P) (w:=w) (base:=base) T;refine T.g_Machine_go_on.F.ok zg () (λ_ _ _ _ H _ Q E hr h=> ?_)
 obtain⟨⟨x,db,dg,rs,own⟩,⟨B0,p0,n0,gs,th⟩,rfl,M0,ax,ay,ho,hR,aF,aA,aG,k⟩:=h;simp only at ax ay ho hR aF aA aG k;subst ax;refine⟨_,#[qe,3,#[zB,6,v6,#[qr,8,yT,#[qG,5,pv 0,rfl],qQ,qz _],#[qe,3,#[qI,8,#[qr,8,op_gt,#[qG,5,pv 0,rfl],#[qy,9,qR,_,T.Yl,uJ,#[qb,5,#[qG,5,pv 0,rfl],qd,_],_,_,_,_],qz _],#[qe,3,#[qX,8,pv 0,#[qF,5,#[qb,5,qm,#[qb,5,qm,qd,_],_]],rfl]],#[qe,3,#[qI,8,#[qr,8,QM,#[qG,5,pv 0,rfl],#[Wl,4,_,T.m_MOST_DONE,_],qz _],#[qe,3,#[qX,8,pv 0,#[qF,5,#[qb,5,qm,#[qb,5,qm,qd,_],_]],rfl]],#[qc,5,#[qU,4,#[Qr,20,pv 0,T.qp,T.g_Machine_do_row.h,zj,hr.mono (),T.g_Machine_do_row.b,.nil,qB,#[qb,5,#[qL,7,qJ,#[qG,5,pv 0,rfl],#[qZ,8,op_sub,#[qG,5,pv 0,rfl],qk],(λ_ _=>rfl)],qd,_],_,_,_],_],#[qe,3,#[qI,8,#[Qp,4,#[Qe,3,#[Q3,17,pv 0,T.qp,T.g_Machine_is_waiting.h,Qg,hr.mono (),T.g_Machine_is_waiting.b,.nil,qB,_],_]],#[qe,3,#[jN,10,pv 0,qk,in_add]],qw]]]]]]]]],?_⟩
 try dsimp only [cxOf,Cx.nox]
 have two:(2:Nat)<=sizeLine:=by decide
 have n1:=hR.n1;generalize aB:runS rs own gs (300-n0) B0 p0 n0=res at k
 let J1_:Nat->L2.St->Hp->Prop:=λm σ H'=>∃(B:Str->D) (p:Int) (n:Nat) (th:D),σ= [some (.ref x)]/\yI a.ql H' ⟨x,db,dg,rs,own⟩ ⟨B,p,n,gs,th⟩/\Mv ⟨x,db,dg,rs,own⟩ H H'/\Tr B/\1<=p/\p<=rs.length+1/\n<=300/\((th= .non/\runS rs own gs (300-n) B p n=res/\m=301-n)∨((∃u e,th= .tup [.str u,e])/\⟨B,p,n,gs,th⟩=res/\m=0))
 refine⟨J1_,⟨_,B0,p0,n0,.non,1,M0,Mv.refl _ _,ay,by omega,by omega,by omega,.inl ⟨1,aB,1⟩⟩,?_⟩
 rintro m σ H' ⟨B,p,n,th,rfl,M,mv,hT,ae,am,hn,hc⟩;have hM:=M;obtain⟨dx,fs,rv,ru,tv,gv,e,f,ir,ij,ib,hg,gl,it⟩:=hM;simp only at e f ir ij ib hg gl it;have aC:fs.length<1000:=by have:=f.len;omega
 refine⟨0,x,_,dx,fs,tv,1,e,T.qp,T.qD,f.there,1,0,?_⟩;rcases hc with⟨rfl,aa,rfl⟩|⟨⟨u,d,rfl⟩,aa,rfl⟩
 ·cases(show tv= .non from it)
  have ah:∀{H:Hp},Is H .non .non:=rfl;refine Qy (by decide+kernel) ?_
  refine⟨λσ' H2=>∃(B:Str->D) (p:Int) (n2:Nat) (th:D),σ'= [some (.ref x)]/\yI a.ql H2 ⟨x,db,dg,rs,own⟩ ⟨B,p,n2,gs,th⟩/\Mv ⟨x,db,dg,rs,own⟩ H H2/\Tr B/\1<=p/\p<=rs.length+1/\n2<=300/\((th= .non/\runS rs own gs (300-n2) B p n2=res/\n<n2)∨((∃u e,th= .tup [.str u,e])/\⟨B,p,n2,gs,th⟩=res)),?_,?_⟩
  ·rintro σ' H2 ⟨B2,p2,n2,aN,rfl,M2,af,aD,a1,a2,a3,aH⟩;rcases aH with⟨rfl,q1,q2⟩|⟨q0,q1⟩
   ·exact⟨301-n2,by omega,B2,p2,n2,0,M2,af,aD,a1,a2,a3,.inl ⟨1,q1,1⟩⟩
   ·exact⟨(0),by omega,B2,p2,n2,0,M2,af,aD,a1,a2,a3,.inr ⟨q0,q1,1⟩⟩
  ·have aI:=ir;obtain⟨ta,us,rfl,aJ,iu⟩:=aI;have aO:us.length=rs.length:=by rw [iu.length,u9]
   have fl:∀(z:Str) (H:Hp) (l:o3),z.length<=100->H l=none->Is (upd H l (.tup [.str "fault",.str z])) (flt z) (.ref l):=λz H l hz hl=>Is.new (ds:= [.str "fault",.str z]) ⟨_,0,⟨1,yq (by decide)⟩,_,0,⟨1,yq (by omega)⟩,1⟩ hl
   have ac:∀(z:Str),z.length<=100->⟨B,p,n,gs,flt z⟩=res->∀l,H' l=none->(λH2=>∃(B:Str->D) (p:Int) (n2:Nat) (th:D),[some (V.ref x)]= [some (V.ref x)]/\yI a.ql H2 ⟨x,db,dg,rs,own⟩ ⟨B,p,n2,gs,th⟩/\Mv ⟨x,db,dg,rs,own⟩ H H2/\Tr B/\1<=p/\p<=rs.length+1/\n2<=300/\((th= .non/\runS rs own gs (300-n2) B p n2=res/\n<n2)∨((∃u e,th= .tup [.str u,e])/\⟨B,p,n2,gs,th⟩=res))) (upd (upd H' l (.tup [.str "fault",.str z])) x (.ins a.ql dx (putF "there" (.ref l) fs))):=by
    intro z hz aK l hl;have s1:Same H' (upd H' l (.tup [.str "fault",.str z])):=qg hl _;obtain⟨m1,m2⟩:=Q9 (m:=⟨x,db,dg,rs,own⟩) (r:=⟨B,p,n,gs,flt z⟩) (s1 _ _ e) (f.set_there (u:= .ref l)) (ir.mono s1.tk) (ij.mono s1.tk) (ib.same s1) (s1 _ _ hg) (gl.mono s1.tk) (fl z H' l hz hl);exact⟨B,p,n,flt z,1,m1,mv.trans ((Mv.of s1).trans m2),hT,ae,am,hn,.inr ⟨⟨_,0⟩,aK⟩⟩
   refine⟨0,x,_,dx,fs,0,e,T.qp,T.Qc,f.place,0,x,_,dx,fs,0,e,T.qp,T.yE,f.rows,ta,us,1,.inr (SqT.of aJ),_,0,1,0,?_⟩;refine ite2 (λc=> ?_) (λc=> ?_)
   ·have c':p>rs.length:=by have:=uh c;omega
    have er:⟨B,p,n,gs,flt "silent"⟩=res:=by
     rw [<-aa];cases h3:300-n with
     |zero=>unfold runS;rw [if_pos c']
     |succ q=>unfold runS;rw [if_pos c']
    refine⟨two,λl hl=> ?_⟩;have s1:Same H' (upd H' l (.tup [.str "fault",.str "silent"])):=qg hl _;exact⟨0,x,_,dx,fs,1,s1 _ _ e,T.qp,T.qD,aC,ac "silent" (by decide) er l hl⟩
   ·have c':¬p>rs.length:=λh=>c (uc (by omega))
    refine⟨0,x,_,dx,fs,0,e,T.qp,T.Q0,f.done,1,0,?_⟩;refine ite2 (λc2=> ?_) (λc2=> ?_)
    ·have e3:n=300:=by have:=uh c2;injection this with h;omega
     have er:⟨B,p,n,gs,flt "long"⟩=res:=by
      rw [<-aa,e3];show _=runS rs own gs 0 B p 300;unfold runS;rw [if_neg c']
     refine⟨two,λl hl=> ?_⟩;have s1:Same H' (upd H' l (.tup [.str "fault",.str "long"])):=qg hl _;exact⟨0,x,_,dx,fs,1,s1 _ _ e,T.qp,T.qD,aC,ac "long" (by decide) er l hl⟩
    ·have e3:n<300:=by
      rcases Nat.lt_or_ge n 300 with h|h
      ·exact h
      ·exact absurd (uc (by rw [show n=300 by omega];rfl)) c2
     have ao:p<=rs.length:=by omega
     have aE:=hR.ok _ (Wp ae ao);have hok:=rowO_ok (own:=own) aE hT ae ao;have U:res=match rowO own (jR rs p) B p with
       | .go B' p'=>runS rs own gs (300-(n+1)) B' p' (n+1)
       | .stop e=>⟨B,p,if QK e=true then n else n+1,gs,e⟩:=by
      rw [<-aa,show 300-n=(300-(n+1))+1 by omega,runS,if_neg c']
     refine⟨0,x,dx,fs,1,e,f.meth _ (by decide+kernel),?_⟩
     refine⟨0,x,_,dx,fs,0,e,T.qp,T.yE,f.rows,0,x,_,dx,fs,0,e,T.qp,T.Qc,f.place,_,0,1,?_⟩;have aL:atI (rs.map rowD) (p-1)=some (rowD (jR rs p)):=by
      rw [show p-1=((p.toNat-1:Nat):Int) by omega]
      exact QW (by rw [uF,row_at ae ao];rfl)
     refine JO (d:=rowD (jR rs p)) ir aL λq hq=> ?_;refine⟨⟨x,db,dg,rs,own⟩,⟨B,p,n,gs,.non⟩,jR rs p,q,rs.length,1,M,1,hT,ho,aE,hq,λH2 m2 M2=> ?_⟩;have aM:=M2;obtain⟨ag,ad,aP,aQ,aR,aS,e2,f2,ap,aq,ak,au,aw,ah⟩:=aM;simp only at e2 f2 ap aq ak au aw ah;have al:ad.length<1000:=by have:=f2.len;omega
     have af:=mv.trans m2;generalize hO:rowO own (jR rs p) B p=O at hok U M2 ah ak f2;cases O with
     |go B' p'=>
      obtain⟨q1,q2,q3⟩:=hok;refine⟨0,x,ag,ad,1,e2,f2.meth _ (by decide+kernel),_,0,M2,.inl rfl,0,?_⟩
      refine Qy rfl ?_;refine⟨0,x,_,ag,ad,0,e2,T.qp,T.Q0,f2.done,(n:Int),(1),1,1,ag,ad,e2,al,?_⟩;obtain⟨m3,m4⟩:=Q9 (m:=⟨x,db,dg,rs,own⟩) (r:=⟨B',p',n+1,gs,.non⟩) e2 (f2.set_done (k:=n+1)) ap aq ak au aw ah;exact⟨B',p',n+1,.non,1,m3,af.trans m4,q1,q2,q3,by omega,.inl ⟨1,U.symm,by omega⟩⟩
     |stop d=>
      obtain⟨u,d2,rfl⟩:=hok;refine⟨0,x,ag,ad,1,e2,f2.meth _ (by decide+kernel),_,0,M2,.inr ⟨_,0⟩,0,?_⟩
      cases hw:QK (.tup [.str u,d2]) with
      |true=>
       simp only [hw] at U;refine Qi (by show(!QK (.tup [.str u,d2]))=false;rw [hw];rfl) ?_
       exact⟨B,p,n,0,M2,af,hT,ae,am,hn,.inr ⟨⟨_,0⟩,U.symm⟩⟩
      |false=>
       simp only [hw] at U;refine Qy (by show(!QK (.tup [.str u,d2]))=true;rw [hw];rfl) ?_
       refine⟨0,x,_,ag,ad,0,e2,T.qp,T.Q0,f2.done,(n:Int),(1),1,1,ag,ad,e2,al,?_⟩;obtain⟨m3,m4⟩:=Q9 (m:=⟨x,db,dg,rs,own⟩) (r:=⟨B,p,n+1,gs,.tup [.str u,d2]⟩) e2 (f2.set_done (k:=n+1)) ap aq ak au aw ah;exact⟨B,p,n+1,0,m3,af.trans m4,hT,ae,am,by omega,.inr ⟨⟨_,0⟩,U.symm⟩⟩
 ·have:tv≠ .non:=by obtain⟨_,_,h,_⟩:=it;rw [h];exact λz=>by cases z
  refine Qi (ue this) ?_;refine k H' mv ?_;rw [<-aa];exact M
def emp (z:Str):D:= .tup [.str z,.str ""]
theorem prs_of {H:Hp}:∀{zs:oj Str}{ys:oj V},L2.IsL H (zs.map emp) ys->∃ts:oj o3,ys=ts.map V.ref/\ts.length=zs.length/\∀(i:Nat) (t:o3) (z:Str),ts[i]? =some t->zs[i]? =some z->H t=some (.tup [.str z,.str ""])
 | [],_,h=>by
  cases(show _= [] from h)
  exact⟨[],1,1,λi t z h=>by simp at h⟩
 |y::zs,_,h=>by
  obtain⟨v,r,rfl,⟨t,us,rfl,U,v1,u1,rfl,⟨rfl,_⟩,v2,u2,rfl,⟨rfl,_⟩,e2⟩,h2⟩:=h;cases(show u2= [] from e2)
  obtain⟨ts,rfl,hl,hi⟩:=prs_of h2;refine⟨t::ts,1,by rw [ui,hl];rfl,λi q z h1 O=> ?_⟩
  cases i with
  |zero=>
   cases h1;cases O;exact U
  |succ j=>exact hi j q z (by simpa using h1) (by simpa using O)
theorem prs_box {H:Hp}{A:o3}{ys:oj V}(e:H A=some (.lst ys))(h:L2.IsL H (BX.map emp) ys):PairsL H A (BX.map λz=>(z,V.str "")):=by
 obtain⟨ts,rfl,U,hi⟩:=prs_of h;refine⟨ts,e,by rw [U,u9],λi t p h1 h2=> ?_⟩
 rw [uF] at h2;cases O:BX[i]? with
 |none=>rw [O] at h2;cases h2
 |some z=>
  rw [O] at h2;cases h2;exact hi i t z h1 O
def B0:Str->D:=λ_=> .str ""
theorem box_new {H:Hp}{q:o3}(O:H q=none):yW (upd H q (.dK (inrK (BX.map λz=>(z,V.str ""))))) q B0:=by
 refine⟨λ_=> .str "",?_,λz _=>⟨1,yq (by decide)⟩⟩
 rw [qf];unfold inrK kvB;rw [uG]
 rfl
theorem B0_tr:Tr B0:=λ_ _=>(by decide+kernel:isT (.str "")=true)
theorem bx_nodup:((BX.map λz=>(z,V.str "")).map (·.1)).Nodup:=by
 rw [uG];show(BX.map id).Nodup;rw [List.map_id]
 decide+kernel
theorem putF_le (f:Str)(v:V):∀fs:oj (Str×V),(putF f v fs).length<=fs.length+1
 | []=>ug _
 |(g,x)::r=>by
  unfold putF;by_cases c:g=f
  ·rw [if_pos c];simp
  ·rw [if_neg c];have:=putF_le f v r;simp only [ui];omega
def FLD:oj Str:= ["rows","rule","own","boxes","place","done","given","there"]
theorem mth_fld:∀m∈MTH,m∉FLD:=by decide+kernel
theorem fl_new {rv v:V}{own:Str}{db dg:o3}(O:(putF "there" .non (putF "given" (.ref dg) (putF "done" (.int 0) (putF "place" (.int 1) (putF "boxes" (.ref db) (putF "own" (.str own) (putF "rule" v (putF "rows" rv [])))))))).length<=20):
  Fl (putF "there" .non (putF "given" (.ref dg) (putF "done" (.int 0) (putF "place" (.int 1) (putF "boxes" (.ref db) (putF "own" (.str own) (putF "rule" v (putF "rows" rv [])))))))) rv v own db dg 1 0 .non:=by
 refine⟨?_,?_,?_,?_,?_,?_,?_,?_,λm hm=> ?_,O⟩
 ·iterate 7 rw [qA,if_neg (by decide+kernel)]
  rw [qA,if_pos rfl]
 ·iterate 6 rw [qA,if_neg (by decide+kernel)]
  rw [qA,if_pos rfl]
 ·iterate 5 rw [qA,if_neg (by decide+kernel)]
  rw [qA,if_pos rfl]
 ·iterate 4 rw [qA,if_neg (by decide+kernel)]
  rw [qA,if_pos rfl]
 ·iterate 3 rw [qA,if_neg (by decide+kernel)]
  rw [qA,if_pos rfl]
 ·iterate 2 rw [qA,if_neg (by decide+kernel)]
  rw [qA,if_pos rfl]
  rfl
 ·rw [qA,if_neg (by decide+kernel),qA,if_pos rfl]
 ·rw [qA,if_pos rfl]
 ·have h:=mth_fld m hm
  iterate 8 rw [qA,if_neg (λe=>h (by rw [e];decide+kernel))]
  rfl
structure Ini (n:Nat)(H:Hp)(C x dx:o3)(fs:oj (Str×V))(H':Hp):Prop where
 len:fs.length<=n
 at':H' x=some (.ins C dx fs)
 kept:∀b o,H b=some o->b≠x->H' b=some o
theorem Ini.put {n:Nat}{H H':Hp}{C x dx:o3}{fs:oj (Str×V)}(I:Ini n H C x dx fs H')(f:Str)(v:V):Ini (n+1) H C x dx (putF f v fs) (upd H' x (.ins C dx (putF f v fs)))/\Tk H' (upd H' x (.ins C dx (putF f v fs))):=
 ⟨⟨uQ (putF_le f v fs) (Nat.succ_le_succ I.len),qf,λb o h n=>by rw [qh n];exact I.kept b o h n⟩,Tk.updI I.at'⟩
theorem Ini.same {n:Nat}{H H' H2:Hp}{C x dx:o3}{fs:oj (Str×V)}(I:Ini n H C x dx fs H')(s:Same H' H2):Ini n H C x dx fs H2:=⟨I.len,s _ _ I.at',λb o h n=>s _ _ (I.kept b o h n)⟩
theorem lc_box {K:o0}{b A:o3}{H1:Hp}{te:TE}{tl:L2.St}{Q:VK}(O:∀H,SqT K H b (BX.map V.str))(hA:H1 A=none)
  (U:∀(z:Str) H (R:VK),z.length<=sizeLine->Same H1 H->(∀y H',Same H H'->Is H' (emp z) y->R y H')->te (some (.str z)::tl) H R)
  (hQ:∀H' ys,Same H1 H'->H' A=some (.lst ys)->L2.IsL H' (BX.map emp) ys->Q (.ref A) H'):lcGo A (Itt K b) (YC 0) tYes te (none::tl) H1 Q:=by
 have hl:∀H,L2.IsL H (BX.map D.str) (BX.map V.str):=λH=>IsL.ofStrs λz hz=>yq (by rw [(box_ok hz).1];decide)
 refine lc_data (ds:=BX.map D.str) (λd=>match d with| .str z=>emp z|d=>d) (yq (by decide)) hA (λi H sm hi=>⟨BX.map V.str,(BX.map V.str)[i]'(by simpa using hi),O H,uf _⟩) (λi H x H' d sm hd y=> ?_) (λH sm=>⟨BX.map V.str,O H,by simp⟩) (λd x H R hd sm hx r=> ?_) (λH' ys sm e h=>hQ H' ys sm e ?_)
 ·obtain⟨rfl,y⟩:=y;obtain⟨v,e1,e2⟩:=(hl H').get hd;have:=y _ (O H');rw [e1] at this;cases this;exact⟨1,e2⟩
 ·obtain⟨z,_,rfl⟩:=List.mem_map.mp hd;obtain⟨rfl,hz⟩:=hx;exact U z H R hz sm r
 ·rw [uG] at h;exact h
theorem isNm_str:∀{d:D},isNm d=true->∃own,d= .str own/\nm own=true/\own.length<=100
 | .str z,h=>⟨z,1,h,by
  rcases Nat.lt_or_ge 24 z.length with h1|h1
  ·rw [show isNm (.str z)=nm z from rfl,nm_len (λq=>by omega)] at h
   cases h
  ·omega⟩
theorem back_rows {n:Nat}:∀{ds:oj D},ds.all (λd=>(Qf n d).isSome)=true->((ds.filterMap (Qf n)).map λr=>D.str (yG r))=ds/\(ds.filterMap (Qf n)).length=ds.length/\∀r∈ds.filterMap (Qf n),jg n 300 r
 | [],_=>⟨1,1,λr h=>by simp at h⟩
 |d::ds,h=>by
  rw [vi,ur] at h;obtain⟨r,O⟩:=xI h.1;obtain⟨i1,i2,i3⟩:=back_rows h.2;cases d with
  |str z=>
   obtain⟨h1,h2⟩:=rowOf_ok (show ZD n z=some r from O)
   rw [vS O];refine⟨by rw [uq,h2,i1],by rw [ui,ui,i2],λx U=> ?_⟩
   rcases List.mem_cons.mp U with rfl|U
   ·exact h1
   ·exact i3 x U
  |_=>cases O
theorem readD_ok:∀{d:D}{rs:oj Rw},QZ d=some rs->QY rs/\d=JU rs
 | .tup ds,rs,h=>by
  rw [xM] at h;split at h
  ·rename_i O
   cases h;simp only [ur,uU] at O;obtain⟨⟨⟨h1,h2⟩,U⟩,h4⟩:=O;obtain⟨i1,i2,i3⟩:=back_rows U;have e:JU (ds.filterMap (Qf ds.length))= .tup ds:=congrArg D.tup i1;exact⟨⟨by omega,by omega,λr hr=>by rw [i2];exact i3 r hr,by rw [e];exact h4⟩,e.symm⟩
  ·cases h
def sp_minit (C br bn:o3):Sp:=λvs H Q E=>∃(x dx:o3) (v ov:V) (d od:D),vs= [.ref x,v,ov]/\H x=some (.ins C dx [])/\Is H d v/\Is H od ov/\
 (QZ d=none->∀(e:o3) (H':Hp),(∀b o,H b=some o->b≠x->H' b=some o)->E (.ref e) (some br) H')/\
 (QZ d≠none->isNm od=false->∀(e:o3) (H':Hp),(∀b o,H b=some o->b≠x->H' b=some o)->E (.ref e) (some bn) H')/\
 (∀(rs:oj Rw) (own:Str),d=JU rs->QY rs->od= .str own->nm own=true->own.length<=100->∀(H':Hp) (db dg:o3),(∀b o,H b=some o->b≠x->H' b=some o)->H db=none->H dg=none->yI C H' ⟨x,db,dg,rs,own⟩ (runS rs own [] 300 B0 1 0)->Q .non H')
theorem ok_minit (T:Tx K mg a)(C:Fx K w mg g a):FnOk P w K mg base (CX1 P w) 6 a.Yw a.Jp ["self","rule","own"] (sp_minit a.ql g.br g.bn):=by
 have QQ:=Xg (P:=P) (w:=w) (base:=base) T;have O:=ok_rows (P:=P) (w:=w) (base:=base) T C;have Yf:=ok_goon (P:=P) (w:=w) (base:=base) T C;refine T.g_Machine_init.F.okX zC () (λ_ _ _ _ H _ Q E hr h=> ?_)
 obtain⟨x,dx,v,ov,d,od,rfl,hx,hv,ho,kR,kN,k⟩:=h;refine⟨_,#[qc,5,#[qX,8,pv 0,#[qx,16,O,hr.mono (),_,T.g_rule_rows.m,T.g_rule_rows.F.kp,T.g_rule_rows.b,.nil,pass1,#[qb,5,pv 1,qd,_],_,_,_],rfl],#[qc,5,#[qI,8,#[Qp,4,#[Qe,3,#[qx,16,QQ,hr.mono (),_,T.g_is_name.m,T.g_is_name.F.kp,T.g_is_name.b,.nil,qB,#[qb,5,pv 2,qd,_],_,_,_],_]],#[qe,3,#[Wr,22,C.x_BadName,_,C.ZR,qm,_,_]],qw],#[qc,5,#[qX,8,pv 0,pv 1,rfl],#[qc,5,#[qX,8,pv 0,pv 2,rfl],#[qc,5,#[qX,8,pv 0,#[qY,9,#[call_dictP,1,rfl],_,T.z_dict,boot_dict,#[qb,5,#[JX,2,["box"],(1),[],9,lcs0,rfl,#[zS,4,#[zm,4,_,C.m_BOXES,_]],(λ_ _ _ _ _ _=>#[qO,2,(0),1,(show List.Nodup (["box"]:oj Str) by decide+kernel),rfl,Or.inl rfl,_]),(λ_ _ _ _ _ _=> @Q5 _),(λ_ _ _ _ _ _=>#[qF,5,#[qb,5,pv 0,#[qb,5,qm,qd,_],_]]),_],qd,_],_,_,_,_],rfl],#[qc,5,#[qX,8,pv 0,qk,rfl],#[qc,5,#[qX,8,pv 0,qk,rfl],#[qc,5,#[qX,8,pv 0,#[QO,4,qd],rfl],#[qc,5,#[qX,8,pv 0,qQ,rfl],#[qe,3,#[qU,4,#[Q3,17,pv 0,T.qp,T.g_Machine_go_on.h,Yf,hr.mono (),T.g_Machine_go_on.b,.nil,qB,_],_]]]]]]]]]]],?_⟩
 try dsimp only [cxOf,Cx.nox]
 refine⟨0,v,d,1,hv,λrs am rv H1 s1 ir=> ?_,λhn e H1 s1=>kR hn e H1 λb o h _=>s1 b o h⟩;refine⟨0,x,_,dx,[],1,s1 _ _ hx,T.qp,T.yE,by decide,?_⟩
 have I0:Ini 0 H a.ql x dx [] H1:=⟨ug _,s1 _ _ hx,λb o h _=>s1 _ _ h⟩;obtain⟨I1,t1⟩:=I0.put "rows" rv;have aB:=ir.mono t1;have htk:∀{n:Nat}{fs:oj (Str×V)}{H':Hp},Ini n H a.ql x dx fs H'->Tk H H':=λ{n fs H'} I=>⟨λb xs e=>I.kept b _ e (λz=>by rw [z,hx] at e;cases e),λb xs e=>⟨_,I.kept b _ e (λz=>by rw [z,hx] at e;cases e)⟩,λb xs e=>⟨_,I.kept b _ e (λz=>by rw [z,hx] at e;cases e)⟩⟩
 refine⟨0,ov,od,1,ho.mono (htk I1),λH3 s3=>⟨0,?_⟩⟩;have I3:=I1.same s3;cases ad:isNm od with
 |false=>exact iteT ⟨1,λe=>kN (by rw [am];simp) ad e H3 I3.kept⟩
 |true=>
 refine iteF ?_;obtain⟨hR,rfl⟩:=readD_ok am;obtain⟨own,rfl,ad,ao⟩:=isNm_str ad;cases(show ov= .str own from ho.1)
 have n1:=hR.n1;have k:=k rs own rfl hR rfl ad ao;have aC:=aB.mono s3.tk;refine⟨0,0,x,_,dx,0,I3.at',T.qp,T.wb,by have:=I3.len;omega,?_⟩
 obtain⟨I4,t4⟩:=I3.put "rule" v;have aD:=aC.mono t4;refine⟨0,0,x,_,dx,0,I4.at',T.qp,T.xk,by have:=I4.len;omega,?_⟩
 obtain⟨I5,t5⟩:=I4.put "own" (.str own);have aE:=aD.mono t5;refine⟨g.boxes,0,C.boxes _,λaP A0 aF=> ?_⟩;refine lc_box (tl:= []) C.boxes aF (λz H6 R hz s6 r=>⟨0,(sml rfl),λl hl=>r _ _ (qg hl _) (Is.new (ds:= [.str z,.str ""]) ⟨_,0,⟨1,hz⟩,_,0,⟨1,yq (by decide)⟩,1⟩ hl)⟩) λH6 ys s6 e6 i6=> ?_
 refine⟨A0,0,prs_box e6 i6,bx_nodup,by decide,λdb aa=> ?_⟩
 have I6:=I5.same s6;have s7:Same H6 (upd H6 db (.dK (inrK (BX.map λz=>(z,V.str ""))))):=qg aa _;have I7:=I6.same s7;have b7:=box_new aa;have aG:=(aE.mono s6.tk).mono s7.tk;have nx:∀b o,H b=some o->b≠x->b≠db:=λb o h n=>qj (I6.kept b o h n) aa;have U:x≠db:=qj I6.at' aa;refine⟨0,x,_,dx,0,I7.at',T.qp,T.Qn,by have:=I7.len;omega,?_⟩
 obtain⟨I8,t8⟩:=I7.put "boxes" (.ref db);have b8:=b7.move t8 (qh U.symm);have aH:=aG.mono t8;refine⟨0,x,_,dx,0,I8.at',T.qp,T.Qc,by have:=I8.len;omega,?_⟩
 obtain⟨I9,t9⟩:=I8.put "place" (.int 1);have b9:=b8.move t9 (qh U.symm);have aI:=aH.mono t9;refine⟨0,x,_,dx,0,I9.at',T.qp,T.Q0,by have:=I9.len;omega,?_⟩
 obtain⟨ae,ap⟩:=I9.put "done" (.int 0);have aJ:=b9.move ap (qh U.symm);have aq:=aI.mono ap;refine⟨(sml rfl),λdg af=> ?_⟩;have ag:=qg af (.lst []);have ah:=ae.same ag;have aK:=aJ.same ag;have au:=aq.mono ag.tk;have ak:dg≠x:=(qj ae.at' af).symm;refine⟨0,x,_,dx,0,ah.at',T.qp,T.Ya,by have:=ah.len;omega,?_⟩
 obtain⟨al,aw⟩:=ah.put "given" (.ref dg);have aL:=aK.move aw (qh U.symm);have ax:=au.mono aw;refine⟨0,x,_,dx,0,al.at',T.qp,T.qD,by have:=al.len;omega,?_⟩
 obtain⟨ac,ay⟩:=al.put "there" .non;have aM:=aL.move ay (qh U.symm);have aA:=ax.mono ay;have hl:=ac.len;refine⟨0,x,dx,0,ac.at',(fl_new (by omega)).meth _ (by decide+kernel),?_⟩
 have aN:Is _ (JU rs) v:=hv.mono (htk ac);have frs:∀{b:o3}{H2:Hp},(∀c o,H c=some o->c≠x->H2 c=some o)->H2 b=none->b≠x->H b=none:=λ{b H2} k1 h1 n1=>by
  cases hc:H b with
  |none=>rfl
  |some o=>rw [k1 b o hc n1] at h1;cases h1
 have aO:∀b o,H b=some o->b≠x->b≠dg:=λb o h n=>qj (ae.kept b o h n) af;refine⟨⟨x,db,dg,rs,own⟩,⟨B0,(1),(0),[],.non⟩,1,⟨dx,_,rv,v,.non,[],ac.at',fl_new (by omega),aA,aN,aM,?_,1,1⟩,1,B0_tr,ao,hR,Int.le_refl 1,by show(1:Int)<=(rs.length:Int)+1;omega,uW _,λH' m M=>k H' db dg (λb o h n=>m.kept b o (ac.kept b o h n) n (nx b o h n) (aO b o h n)) (frs I6.kept aa U.symm) (frs ae.kept af ak) M⟩
 rw [qh ak,qh ak,qf]
def jj (z:Str):Bool:=z.cps.toList.all Qs
theorem okAll_app {z y:Str}(h:jj z=true)(k:jj y=true):jj (z++y)=true:=by
 unfold jj at*;show(z.cps++y.cps).toList.all Qs=true;rw [Array.toList_append,Uv,h,k];rfl
mutual
def lw:D->Bool
 | .str z=>jj z
 | .tup xs=>lwL xs
 |_=>false
def lwL:oj D->Bool
 | []=>true
 |x::r=>lw x&&lwL r
end
theorem len_cps (z:Str):z.length=z.cps.toList.length:=by show z.cps.size=_;simp
theorem isT_short {z:Str}(h:jj z=true)(O:z.length<=300):isT (.str z)=true:=by
 have U:Qq z=true:=by
  unfold Qq;rw [uc O,Bool.true_and];exact h
 have e1:sz (.str z)<=600:=by simp only [sz];omega
 have e2:dp (.str z)<=12:=by simp only [dp];omega
 have e3:good (.str z)=true:=by simp only [good];exact U
 unfold isT;rw [e3,uc e1,uc e2]
 rfl
noncomputable def isP:D->Bool
 | .tup xs=>decide (xs.length=2)
 |_=>false
def isSrc:D->Bool
 | .tup [k,d]=>if eqD k (.str "made")=true then isNm d else(eqD k (.str "leaf")||eqD k (.str "rule"))&&isT d
 |_=>false
noncomputable def okS:D->Bool
 | .tup [k,_]=>okHd k&&decide (dp k<=60)
 |_=>true
def sp_pair:Sp:=λvs H Q _=>∃v d,vs= [v]/\Is H d v/\Q (.bl (isP d)) H
def sp_source:Sp:=λvs H Q _=>∃v d,vs= [v]/\Is H d v/\okS d=true/\∀H',Same H H'->Q (.bl (isSrc d)) H'
def sp_cell (K:o0):Sp:=λvs H Q _=>∃(q:o3) (ns:oj Int) (k:Int),vs= [.ref q,.int k]/\0<=k/\SqL K H q (ns.map V.int)/\∀i:Int,Q (.int i) H
theorem iteB {b:Bool}{A B:Prop}(O:b=true)(h:A):if b=true then A else B:=by rw [if_pos O];exact h
theorem iteN {b:Bool}{A B:Prop}(O:b=false)(h:B):if b=true then A else B:=by rw [if_neg (by rw [O];exact u8)];exact h
theorem ok_pair (T:Tx K mg a):FnOk P w K mg base CX0 1 a.f_is_pair a.d_is_pair ["value"] sp_pair:=by
 refine T.g_is_pair.F.ok sc_is_pair () (λ_ _ _ _ H _ Q E hr h=> ?_)
 obtain⟨v,d,rfl,U,k⟩:=h;refine⟨_,#[qe,3,#[qq,4,#[wp,7,#[qy,9,#[qM,2,rfl],_,T.qE,uK,#[qb,5,pv 0,#[qb,5,#[QN,2,.ty "tuple",2,_,T.Qz,vf,rfl,_,_],qd,_],_],_,_,_,_],#[XJ,5,#[yo,8,QM,#[qy,9,jB,_,T.Yl,uJ,#[qb,5,pv 0,qd,_],_,_,_,_],qk,qz _]]]]],?_⟩
 try dsimp only [cxOf,Cx.nox]
 refine⟨0,v,"tuple",tyD d,xN d,1,U.ty,jL d,0,?_⟩;cases ht:xN d with
 |false=>
  refine iteF ?_;have e:isP d=false:=by cases d<;>first|rfl|simp [xN] at ht
  rw [e] at k;exact k
 |true=>
  obtain⟨xs,rfl⟩:∃xs,d= .tup xs:=by cases d<;>simp [xN] at ht;exact⟨0⟩
  obtain⟨p,us,rfl,hp,O⟩:=U;have lu:=O.length;refine iteT ⟨0,.inr ⟨p,us,1,.inr (SqT.of hp),λ_=>⟨1,?_⟩⟩⟩;have e:decide (V.int (us.length:Int)=V.int 2)=isP (.tup xs):=by
   simp only [isP,uR];constructor
   ·intro h;have:=V.int.inj h;omega
   ·intro h;rw [lu,h]
    rfl
  rw [<-e] at k;exact k
theorem ok_source (T:Tx K mg a):FnOk P w K mg base CX0 3 a.ZX a.zR ["value"] sp_source:=by
 have O:=ok_pair (P:=P) (w:=w) (base:=base) T;have QQ:=Xg (P:=P) (w:=w) (base:=base) T;have ye:=YJ (P:=P) (w:=w) (base:=base) T;refine T.g_is_source.F.ok sc_is_source () (λ_ _ _ s H _ Q E hr h=> ?_)
 obtain⟨v,d,rfl,hv,hok,k⟩:=h;refine⟨_,#[qc,5,#[qI,8,#[Qp,4,#[Qe,3,#[qx,16,O,hr.mono (),_,T.g_is_pair.m,T.g_is_pair.F.kp,T.g_is_pair.b,.nil,qB,#[qb,5,pv 0,qd,_],_,_,_],_]],#[qe,3,#[qq,4,YR]],qw],#[qc,5,#[qI,8,#[qr,8,#[op_eqM,1,hr.units],#[qL,7,qJ,pv 0,qk,(λ_ _=>rfl)],qm,qz _],#[qe,3,#[qq,4,#[qx,16,QQ,hr.mono (),_,T.g_is_name.m,T.g_is_name.F.kp,T.g_is_name.b,.nil,qB,#[qb,5,#[qL,7,qJ,pv 0,qk,(λ_ _=>rfl)],qd,_],_,_,_]]],qw],#[qe,3,#[qq,4,#[wp,7,#[yo,8,#[op_inM,1,hr.units],#[qL,7,qJ,pv 0,qk,(λ_ _=>rfl)],#[qF,5,#[qb,5,qm,#[qb,5,qm,qd,_],_]],(by with_unfolding_all rfl)],#[XJ,5,#[qx,16,ye,hr.mono (),_,T.g_is_tree.m,T.g_is_tree.F.kp,T.g_is_tree.b,.nil,qB,#[qb,5,#[qL,7,qJ,pv 0,qk,(λ_ _=>rfl)],qd,_],_,_,_]]]]]]],?_⟩
 try dsimp only [cxOf,Cx.nox]
 refine⟨0,v,0,hv,0,?_⟩;cases hP:isP d with
 |false=>
  refine iteT ?_;have e:isSrc d=false:=by
   cases d with
   |tup xs=>
    match xs,hP with
    | [],_=>rfl
    | [_],_=>rfl
    | [_,_],h=>simp [isP] at h
    |_::_::_::_,_=>rfl
   |_=>rfl
  have:=k H (Same.refl _);rw [e] at this;exact this
 |true=>
  refine iteF ?_;obtain⟨z,e,rfl⟩:∃z e,d= .tup [z,e]:=by
   cases d with
   |tup xs=>
    match xs,hP with
    | [],h=>simp [isP] at h
    | [_],h=>simp [isP] at h
    | [x,y],_=>exact⟨x,y,1⟩
    |_::_::_::_,h=>simp [isP] at h
   |_=>simp [isP] at hP
  obtain⟨p,us,rfl,hp,x1,r1,rfl,h1,x2,r2,rfl,h2,h3⟩:=id hv;cases(show r2= [] from h3)
  have U:okHd z=true/\dp z<=60:=by simpa [okS] using hok
  refine⟨0,p,_,_,0,1,SqT.of hp,1,z,"made",h1,1,by decide,U.1,U.2,0,?_⟩
  cases c:eqD z (.str "made") with
  |true=>
   refine iteT ⟨0,p,_,_,0,1,SqT.of hp,1,x2,e,1,h2,λH' s'=> ?_⟩;have:=k H' s';simp only [isSrc,c,if_true] at this;exact this
  |false=>
   refine iteF ⟨0,p,_,_,0,1,SqT.of hp,1,(sml rfl),λq hq=> ?_⟩;have s1:Same H (upd H q (.tup [.str "leaf",.str "rule"])):=qg hq _;refine⟨z,q,["leaf","rule"],h1.mono s1.tk,1,.inr (SqT.of qf),by decide+kernel,U.1,U.2,0,?_⟩
   have e2:(["leaf","rule"]:oj Str).any (λy=>eqD z (.str y))=(eqD z (.str "leaf")||eqD z (.str "rule")):=by simp
   rw [e2];cases c2:(eqD z (.str "leaf")||eqD z (.str "rule")) with
   |true=>
    refine iteT ⟨0,p,_,_,0,1,SqT.of (s1 _ _ hp),1,x2,e,1,h2.mono s1.tk,λH' s'=> ?_⟩;have:=k H' (s1.trans s');simp only [isSrc,c,c2,Bool.true_and,vJ,UJ] at this;exact this
   |false=>
    refine iteF ?_;have:=k _ s1;simp only [isSrc,c,c2,Bool.false_and,vJ,UJ] at this;exact this
theorem ok_cell (T:Tx K mg a):FnOk P w K mg base CX0 1 a.xQ a.xG ["script","k"] (sp_cell K):=by
 refine T.g_law_cell_at.F.ok wc () (λ_ _ _ _ H _ Q E hr h=> ?_)
 obtain⟨q,ns,j,rfl,h0,O,k⟩:=h;refine⟨_,#[qc,5,#[qI,8,#[qr,8,op_lt,pv 1,#[qy,9,qR,_,T.Yl,uJ,#[qb,5,pv 0,qd,_],_,_,_,_],qz _],#[qe,3,#[qq,4,#[qL,7,Yz,pv 0,pv 1,(λ_ _=>rfl)]]],qw],#[qe,3,#[qq,4,qk]]],?_⟩
 try dsimp only [cxOf,Cx.nox]
 refine⟨0,0,q,0,.inl O,_,0,1,0,?_⟩;refine ite2 (λc=> ?_) (λc=> ?_)
 ·have c':j<((ns.map V.int).length:Int):=uh c;obtain⟨v,U⟩:=j9 h0 c';obtain⟨i,_,rfl⟩:=List.mem_map.mp (Xx U);exact⟨0,0,q,_,_,0,1,O,U,k _⟩
 ·exact k 0
noncomputable def okN (z:Str):Bool:=(z.cps.toList.map λc=>inS ⟨#[c]⟩ NSG).all id
theorem zq {z:Str}(h:nm z=true):1<=z.length/\z.length<=24:=by
 by_cases c:1<=(z.length:Int)/\(z.length:Int)<=24
 ·omega
 ·rw [nm_len c] at h;cases h
def Nms (zs:oj Str):Prop:=(∀z∈zs,nm z=true)/\zs.Nodup
def SrcOk (d:D):Prop:=(∃k e,d= .tup [.str k,e])/\isSrc d=true/\lw d=true/\sz d<=306
noncomputable def prD (p:Str×D):D:= .tup [.str p.1,p.2]
def PrOk (ps:oj (Str×D)):Prop:=Nms (ps.map (·.1))/\∀p∈ps,SrcOk p.2
theorem okN_all {z:Str}(h:okN z=true):jj z=true:=by
 unfold jj;rw [vX];intro c U;have:=List.all_eq_true.mp h _ (List.mem_map.mpr ⟨c,U,1⟩);rw [id,inS_one] at this;have O:∀c∈NSG.cps.toList,Qs c=true:=by decide+kernel
 exact O c (uh this)
theorem nm_okN {z:Str}(h:nm z=true):okN z=true:=by
 have U:=zq h;cases O:inS ⟨#[z.cps.getD 0 0]⟩ LET with
 |false=>rw [nm_first O] at h;cases h
 |true=>
  rw [nm_rest (by omega) (by omega) O] at h
  exact h
theorem src_made {z:Str}(h:nm z=true):SrcOk (.tup [.str "made",.str z]):=by
 have O:=zq h;refine⟨⟨_,0⟩,?_,?_,by simp only [sz,szL];show 1+(("made":Str).length+1+(z.length+1+0))<=306;have:("made":Str).length=4:=rfl;omega⟩
 ·show(if eqD (.str "made") (.str "made")=true then nm z else(eqD (.str "made") (.str "leaf")||eqD (.str "made") (.str "rule"))&&isT (.str z))=true
  rw [if_pos (by decide+kernel)]
  exact h
 ·have:jj "made"=true:=by decide+kernel
  simp only [lw,lwL,this,okN_all (nm_okN h)]
  rfl
theorem src_leaf {k:Str}{d:D}(O:k="leaf"∨k="rule")(h:isT d=true)(U:lw d=true)(hz:sz d<=300):SrcOk (.tup [.str k,d]):=by
 have aa:k.length=4:=by rcases O with rfl|rfl<;>rfl
 refine⟨⟨_,0⟩,?_,?_,by simp only [sz,szL];omega⟩
 ·show(if eqD (.str k) (.str "made")=true then isNm d else(eqD (.str k) (.str "leaf")||eqD (.str k) (.str "rule"))&&isT d)=true
  have e1:eqD (.str k) (.str "made")=false:=by rcases O with rfl|rfl<;>decide+kernel
  have e2:(eqD (.str k) (.str "leaf")||eqD (.str k) (.str "rule"))=true:=by rcases O with rfl|rfl<;>decide+kernel
  rw [e1,e2,h]
  rfl
 ·have:jj k=true:=by
   rcases O with rfl|rfl<;>decide+kernel
  simp only [lw,lwL,this,U]
  rfl
theorem src_okS {d:D}(h:SrcOk d):okS d=true:=by
 obtain⟨⟨k,e,rfl⟩,_⟩:=h;simp [okS,okHd,trD,dp]
theorem YQ {H:Hp}{z:Str}(h:z.length<=16000000):Is H (.str z) (.str z):=⟨1,fits h⟩
def qW (ps:oj (Str×D))(z:Str):D:=((ps.find? λp=>decide (p.1=z)).map (·.2)).getD .non
def Xs (vs:oj (Str×V))(z:Str):V:=(valV (inrK vs) (Sum.inr z)).getD .non
theorem xt (p:Str×V)(r:oj (Str×V)):inrK (p::r)=(Sum.inr p.1,p.2)::inrK r:=rfl
theorem look2 {H:Hp}{z:Str}:∀{ps:oj (Str×D)}{vs:oj (Str×V)},vs.map (·.1)=ps.map (·.1)->IsL H (ps.map (·.2)) (vs.map (·.2))->z∈ps.map (·.1)->valV (inrK vs) (Sum.inr z)=some (Xs vs z)/\Is H (qW ps z) (Xs vs z)
 | [],_,_,_,h=>nomatch h
 |p::ps,[],e,_,_=>by simp at e
 |p::ps,v::vs,e,hi,hz=>by
  simp only [uq,Ux] at e;obtain⟨u,r,e2,h1,h2⟩:=hi;simp only [uq,Ux] at e2;obtain⟨rfl,rfl⟩:=e2;by_cases c:p.1=z
  ·have O:v.1=z:=e.1.trans c;have U:valV (inrK (v::vs)) (Sum.inr z)=some v.2:=by
    rw [xt];exact QG (by rw [O])
   have e4:qW (p::ps) z=p.2:=by simp [qW,uV,c]
   unfold Xs;rw [U,e4];exact⟨1,h1⟩
  ·have O:¬v.1=z:=λq=>c (e.1.symm.trans q);have U:valV (inrK (v::vs)) (Sum.inr z)=valV (inrK vs) (Sum.inr z):=by
    rw [xt];exact Qw (λq=>O (Ub q))
   have e4:qW (p::ps) z=qW ps z:=by simp [qW,uV,c]
   have aa:z∈ps.map (·.1):=by
    rcases List.mem_cons.mp hz with h|h
    ·exact absurd h.symm c
    ·exact h
   have ih:=look2 e.2 h2 aa;unfold Xs at*;rw [U,e4];exact ih
theorem look0 {z:Str}:∀{vs:oj (Str×V)},z∉vs.map (·.1)->valV (inrK vs) (Sum.inr z)=none
 | [],_=>rfl
 |v::vs,h=>by
  rw [xt,Qw (λq=>h (by rw [<-Ub q];exact ud ..))]
  exact look0 λm=>h (ub _ m)
theorem re_map:∀{ps:oj (Str×D)},(ps.map (·.1)).Nodup->(ps.map (·.1)).map (λz=>(z,qW ps z))=ps
 | [],_=>rfl
 |p::ps,h=>by
  have h':=List.nodup_cons.mp h;have O:qW (p::ps) p.1=p.2:=by simp [qW,uV]
  rw [uq,uq,O]
  congr 1
  refine Eq.trans (vV λz U=> ?_) (re_map h'.2);have:¬p.1=z:=λq=>h'.1 (by show p.1∈_;rw [q];exact U)
  simp [qW,uV,this]
noncomputable def tabOf (ps:oj (Str×D))(ms:oj Str):oj (Str×D):=ms.map λz=>(z,qW ps z)
theorem Wm (ps:oj (Str×D))(O:oj Str):(tabOf ps O).map (·.1)=O:=by
 unfold tabOf;rw [uG];exact(vV λ_ _=>rfl).trans (List.map_id O)
theorem tab_perm {ps:oj (Str×D)}{O:oj Str}(hn:(ps.map (·.1)).Nodup)(h:O.Perm (ps.map (·.1))):(tabOf ps O).Perm ps:=by
 have:=h.map λz=>(z,qW ps z);rw [re_map hn] at this;exact this
def yV (C:o3)(H:Hp)(x:o3)(qs:oj (Str×D)):Prop:=∃(dx d:o3) (o:Obj) (vs:oj (Str×V)),H x=some (.ins C dx [("by_name",.ref d)])/\H d=some (.frz o (.dK (inrK vs)))/\vs.map (·.1)=qs.map (·.1)/\L2.IsL H (qs.map (·.2)) (vs.map (·.2))
theorem yV.same {C:o3}{H H':Hp}{x:o3}{qs:oj (Str×D)}(h:yV C H x qs)(s:Same H H'):yV C H' x qs:=by
 obtain⟨dx,d,o,vs,h1,h2,O,h4⟩:=h;exact⟨dx,d,o,vs,s _ _ h1,s _ _ h2,O,h4.mono s.tk⟩
def YH (qs:oj (Str×D)):Prop:=PrOk qs/\sortedS (qs.map (·.1))=true/\qs.length<=60
def sp_init (C:o3):Sp:=λvs H Q _=>∃(x dx t:o3) (ps:oj (Str×D)) (us:oj V),vs= [.ref x,.ref t]/\H x=some (.ins C dx [])/\H t=some (.tup us)/\L2.IsL H (ps.map prD) us/\PrOk ps/\ps.length<=60/\
 ∀(qs:oj (Str×D)) (H':Hp),(∀b o,H b=some o->b≠x->H' b=some o)->yV C H' x qs->YH qs->qs.Perm ps->Q .non H'
theorem Nms.perm {l m:oj Str}(h:Nms m)(p:l.Perm m):Nms l:=⟨λz O=>h.1 z (p.mem_iff.mp O),(p.nodup_iff).mpr h.2⟩
theorem dat_of {ps:oj (Str×D)}{z:Str}{d:D}(hn:(ps.map (·.1)).Nodup)(h:(z,d)∈ps):qW ps z=d:=by
 induction ps with
 |nil=>cases h
 |cons p r ih=>
  have O:=List.nodup_cons.mp hn;rcases List.mem_cons.mp h with h|h
  ·subst h;simp [qW,uV]
  ·have:¬p.1=z:=λq=>O.1 (by show p.1∈_;rw [q];exact List.mem_map.mpr ⟨_,h,1⟩)
   have U:=ih O.2 h
   simpa [qW,uV,this] using U
theorem dat_mem {ps:oj (Str×D)}{z:Str}(hn:(ps.map (·.1)).Nodup)(h:z∈ps.map (·.1)):(z,qW ps z)∈ps:=by
 obtain⟨p,O,rfl⟩:=List.mem_map.mp h;rw [dat_of hn (show(p.1,p.2)∈ps from O)]
 exact O
theorem inrK_snoc (vs:oj (Str×V))(z:Str)(v:V):inrK (vs++ [(z,v)])=inrK vs++ [(Sum.inr z,v)]:=by
 unfold inrK;rw [uu]
 rfl
theorem mapG {α β:Type}(f:α->β){l:oj α}{i:Nat}(h:i<l.length):(l.map f)[i]? =some (f l[i]):=by
 rw [uF,uf h]
 rfl
theorem take1 {α:Type}{l:oj α}{i:Nat}(h:i<l.length):l.take (i+1)=l.take i++ [l[i]]:=by
 rw [vv,uf h]
 rfl
theorem ok_init (T:Tx K mg a):FnOk P w K mg base CX0 4 a.YA a.Jq ["self","sources"] (sp_init a.qH):=by
 have QQ:=Xg (P:=P) (w:=w) (base:=base) T;have U:=ok_source (P:=P) (w:=w) (base:=base) T;refine T.g_Project_init.F.ok yh () (λ_ _ _ _ H vs Q E hr h=> ?_)
 obtain⟨x,dx,t,ps,us,rfl,hx,ht,aq,hok,aM,k⟩:=h;have hs:=uA;refine⟨_,#[qc,5,#[qC,2,(2),4,yh.nd,rfl,Or.inr rfl,zy,_,_],#[qc,5,#[jv,8,v6,rfl,#[pi_tup,4,pv 1],#[pg_tup,6,rfl,yY #[qO,2,(3),1,yh.nd,rfl,Or.inl rfl,_] (yY #[qO,2,(4),1,yh.nd,rfl,Or.inl rfl,_] WK),_,_],#[qc,5,#[qI,8,#[Qp,4,#[Qe,3,#[qx,16,QQ,hr.mono (),_,T.g_is_name.m,T.g_is_name.F.kp,T.g_is_name.b,.nil,qB,#[qb,5,pv 3,qd,_],_,_,_],_]],#[qe,3,YO],qw],#[qc,5,#[qI,8,#[Qp,4,#[Qe,3,#[qx,16,U,hr.mono (),_,T.g_is_source.m,T.g_is_source.F.kp,T.g_is_source.b,.nil,qB,#[qb,5,pv 4,qd,_],_,_,_],_]],#[qe,3,YO],qw],#[qc,5,#[qI,8,#[pt_cmp,6,#[pc_din,5,QU hr,pv 3,pv 2],_],#[qe,3,YO],qw],#[qc,5,#[qI,8,#[qr,8,QM,#[qy,9,call_lenD,_,T.Yl,uJ,#[qb,5,pv 2,qd,_],_,_,_,_],#[Wl,4,_,T.m_MOST_NAMES,_],qz _],#[qe,3,YO],qw],#[qe,3,#[xa,9,QU hr,pv 2,pv 3,pv 4,rfl]]]]]],_],#[qe,3,#[qX,8,pv 0,#[qY,9,#[call_dictF,1,rfl],_,T.z_dict,boot_dict,#[qb,5,#[JX,2,["name","by_name"],(1),[2],9,lcsN (qi yC) ["self","sources","by_name","name","source"],rfl,#[JT,4,#[qy,9,#[call_sortedD,1,rfl],_,T.z_sorted,boot_sorted,#[qb,5,pv 2,qd,_],_,_,_,_]],(λ_ _ _ _ _ _=>#[qO,2,(0),1,(show List.Nodup (["name","by_name"]:oj Str) by decide+kernel),rfl,Or.inl rfl,_]),(λ_ _ _ _ _ _=> @Q5 _),(λ_ _ _ _ _ _=>#[qF,5,#[qb,5,pv 0,#[qb,5,#[QA,6,QU hr,pv 1,pv 0,(λ_ _=>rfl)],qd,_],_]]),_],qd,_],_,_,_,_],rfl]]]],?_⟩
 try dsimp only [cxOf,Cx.nox]
 intro d hd;have s1:Same H (upd H d (.dK [])):=qg hd _;have aN:d≠x:=λe=>by rw [e,hx] at hd;cases hd
 have au:=aq.length;rw [u9] at au;refine⟨0,t,1,⟨_,SqT.of (s1 _ _ ht)⟩,Wk (K:=K) (a:=t) (xs:=us) (λi σ H'=>∃(vs:oj (Str×V)) (nv sv:om V),σ= [some (.ref x),some (.ref t),some (.ref d),nv,sv]/\Same H H'/\H' d=some (.dK (inrK vs))/\vs.map (·.1)=(ps.take i).map (·.1)/\L2.IsL H' ((ps.take i).map (·.2)) (vs.map (·.2)))
  ⟨[],none,none,1,s1,qf,1,1⟩ (λi σ H' _ ⟨_,_,_,_,sm,_⟩=>SqT.of (sm _ _ ht)) ?_ ?_⟩
 ·rintro i y σ H' hi ⟨vs,nv,sv,rfl,sm,ad,hk,hv⟩;have aO:i<us.length:=(List.getElem?_eq_some_iff.mp hi).1;have aa:i<ps.length:=by omega
  obtain⟨v,e1,e2⟩:=aq.get (mapG prD aa);rw [hi] at e1;cases e1;have aw:=hok.2 _ (uT aa);have aC:nm ps[i].1=true:=hok.1.1 _ (List.mem_map.mpr ⟨_,uT aa,1⟩);obtain⟨⟨sk,sd,aP⟩,aD,aQ⟩:=aw;obtain⟨p,ws,rfl,hp,w1,r1,rfl,⟨rfl,hz⟩,w2,r2,rfl,h2,h3⟩:=e2;cases(show r2= [] from h3)
  have aE:=sm _ _ hp;refine⟨p,0,SqT.of aE,1,_,0,_,0,1,?_⟩;refine⟨0,_,.str ps[i].1,1,⟨1,hz⟩,λH3 s3=>⟨0,iteN (by simp [isNm,aC]) ?_⟩⟩
  have ax:Is H3 ps[i].2 w2:=h2.mono (sm.trans s3).tk;refine⟨0,w2,ps[i].2,1,ax,src_okS (hok.2 _ (uT aa)),λH4 s4=>⟨0,iteN (by rw [aD];rfl) ?_⟩⟩
  have ag:=s3.trans s4;have ae:=ag _ _ ad;have nk:ps[i].1∉vs.map (·.1):=by
   rw [hk];have ac:=hok.1.2;have e:ps.map (·.1)=(ps.take i).map (·.1)++ps[i].1::(ps.drop (i+1)).map (·.1):=by
    rw [<-uq (f:=λx:Str×D=>x.1),<-v7 aa,<-uu,List.take_append_drop]
   rw [e,List.nodup_append] at ac;exact λm=>ac.2.2 _ m _ (ud ..) rfl
  have ev:=look0 nk;have aF:vs.length=i:=by
   have:=congrArg List.length hk;rw [u9,u9,vn] at this;omega
  refine⟨0,0,d,0,DGet.k (k:=Sum.inr ps[i].1) ae,0,iteN (by rw [ev];rfl) ?_⟩
  refine⟨0,d,0,ae,1,0,iteN (ue λq=> ?_) ?_⟩
  ·have:=V.int.inj q;unfold inrK at this;rw [u9] at this;omega
  ·have aG:(inrK vs).length<sizeLine:=by
    unfold inrK;rw [u9];omega
   refine⟨0,0,0,d,0,DPut.k (k:=Sum.inr ps[i].1) ae aG,?_⟩;have tk:Tk H4 (upd H4 d (.dK (putK (inrK vs) (Sum.inr ps[i].1) w2))):=Tk.updD ae;refine⟨vs++ [(ps[i].1,w2)],_,0,?_,?_,?_,?_⟩
   ·intro b o e;rw [qh (qj e hd)];exact(sm.trans ag) _ _ e
   ·rw [qf,putK_new _ ev,inrK_snoc]
   ·rw [take1 aa,uu,uu,hk]
    rfl
   ·rw [take1 aa,uu,uu];exact(((hv.mono ag.tk).mono tk)).append (L2.IsL.one ((ax.mono s4.tk).mono tk))
 ·rintro σ H1 ⟨vs,nv,sv,rfl,sm,ad,hk,hv⟩;rw [au,Um] at hk hv;have aF:vs.length=ps.length:=by
   have:=congrArg List.length hk
   rwa [u9,u9] at this
  have ah:(inrK vs).map (·.1)=(ps.map (·.1)).map Sum.inr:=by rw [Zc,hk]
  refine⟨0,d,inrK vs,ps.map (·.1),1,ad,ah,by rw [u9];omega,λms q O ak hq=>⟨q,1,⟨_,SqL.of qf⟩,λA0 al=> ?_⟩⟩
  have s2:Same H1 (upd H1 q (.lst (ms.map V.str))):=qg hq _;have aR:ms.length=ps.length:=by
   have:=O.length_eq
   rwa [u9] at this
  refine lc_strs (K:=K) (tl:= [some (.ref d)]) (λi ys H'=>∃ts:oj o3,ys=ts.map V.ref/\ts.length=i/\Same H1 H'/\H' A0=some (.lst ys)/\∀(j:Nat) (t:o3) (z:Str),ts[j]? =some t->ms[j]? =some z->H' t=some (.tup [.str z,Xs vs z])) qf (by omega) al
   ⟨[],1,1,s2.trans (qg al _),qf,λj t z h=>by simp at h⟩ ?_ ?_
  ·rintro i z ys H' hz ⟨ts,rfl,af,s3,hA,am⟩ _ _ _ R r;have aH:z∈ps.map (·.1):=O.mem_iff.mp (uS hz);have lk:=look2 hk hv aH;refine⟨0,0,0,d,Xs vs z,1,?_,(sml rfl),λt2 ao=> ?_⟩
   ·have:=DGet.k (k:=Sum.inr z) (s3 _ _ ad);rw [lk.1] at this;exact this
   ·have s4:=qg ao (.tup [V.str z,Xs vs z]);have aI:t2≠A0:=λe=>by rw [e,hA] at ao;cases ao
    refine r _ _ (s4 _ _ hA) (s4 _ _ (by assumption)) ⟨ts++ [t2],by rw [uu];rfl,by rw [uD,af];rfl,?_,qf,?_⟩
    ·intro b o e;have nb:b≠A0:=qj (s2 _ _ e) al;rw [qh nb];exact s4 _ _ (s3 _ _ e)
    ·intro j t z' h1 h2;rcases Nat.lt_or_ge j i with hj|hj
     ·rw [Uk (by omega)] at h1
      have:=am j t z' h1 h2;have nb:t≠A0:=λe=>by rw [e,hA] at this;cases this
      rw [qh nb];exact s4 _ _ this
     ·have aJ:j=i:=by
       have:=(List.getElem?_eq_some_iff.mp h1).1;rw [uD] at this;have:j<ts.length+1:=this;omega
      subst aJ;rw [hz] at h2;cases h2;rw [vG (by omega),af,Nat.sub_self] at h1
      cases h1;rw [qh aI];exact qf
  ·rintro ys H2 ⟨ts,rfl,af,s3,hA,am⟩ _;have ac:=hok.1.2;have aK:ms.Nodup:=O.nodup_iff.mpr ac;have ay:(ms.map λz=>(z,Xs vs z)).map (·.1)=ms:=by
    rw [uG];exact(vV λ_ _=>rfl).trans (List.map_id ms)
   refine⟨A0,ms.map λz=>(z,Xs vs z),1,⟨ts,hA,by rw [u9];exact af,λj t p h1 h2=> ?_⟩,by rw [ay];exact aK,by rw [u9];omega,λq2 o ap=> ?_⟩
   ·rw [uF] at h2;cases h3:ms[j]? with
    |none=>rw [h3] at h2;cases h2
    |some z=>
     rw [h3] at h2;cases h2;exact am j t z h1 h3
   ·have s4:=qg ap (.frz o (.dK (inrK (ms.map λz=>(z,Xs vs z)))));have aA:H1 x=some (.ins a.qH dx []):=sm _ _ hx;have aB:=s4 _ _ (s3 _ _ aA);have nq:q2≠x:=λe=>by rw [e,s3 _ _ aA] at ap;cases ap
    refine⟨0,x,a.qH,dx,[],1,aB,T.yK,T.QT,(by show 0<1000;decide),?_⟩
    refine k (tabOf ps ms) _ ?_ ⟨dx,q2,o,ms.map λz=>(z,Xs vs z),qf,by rw [qh nq];exact qf,by rw [ay,Wm],?_⟩ ⟨⟨?_,?_⟩,by rw [Wm];exact ak,by unfold tabOf;rw [u9];omega⟩ (tab_perm ac O)
    ·intro b ob e nb;rw [qh nb];exact s4 _ _ (s3 _ _ (sm _ _ e))
    ·have tk:Tk H1 (upd (upd H2 q2 (.frz o (.dK (inrK (ms.map λz=>(z,Xs vs z)))))) x (.ins a.qH dx (putF "by_name" (.ref q2) []))):=(s3.trans s4).tk.trans (Tk.updI aB);have aL:∀l:oj Str,(∀z∈l,z∈ps.map (·.1))->L2.IsL H1 ((tabOf ps l).map (·.2)) ((l.map λz=>(z,Xs vs z)).map (·.2)):=by
      intro l
      induction l with
      |nil=>exact λ_=>rfl
      |cons z r ih=>exact λh=>⟨_,0,(look2 hk hv (h z (ud ..))).2,ih λy hy=>h y (ub _ hy)⟩
     exact(aL ms λz hz=>O.mem_iff.mp hz).mono tk
    ·rw [Wm];exact hok.1.perm O
    ·intro p hp;exact hok.2 p ((tab_perm ac O).mem_iff.mp hp)
theorem fld_by {v:V}:List.lookup ("by_name":Str) [(("by_name":Str),v)]=some v:=by simp [List.lookup]
theorem jV {v:V}:List.lookup ("source_of":Str) [(("by_name":Str),v)]=none:=by
 have:(("source_of":Str)=="by_name")=false:=by decide+kernel
 simp [List.lookup,this]
def sp_sourceof (C:o3):Sp:=λvs H Q _=>∃(x:o3) (z:Str) (qs:oj (Str×D)),vs= [.ref x,.str z]/\yV C H x qs/\∀v:V,(z∈qs.map (·.1)->Is H (qW qs z) v)->(z∉qs.map (·.1)->v= .non)->Q v H
theorem JP (T:Tx K mg a):FnOk P w K mg base CX0 1 a.Yj a.Yd ["self","name"] (sp_sourceof a.qH):=by
 refine T.g_Project_source_of.F.ok Jh () (λ_ _ _ _ H vs Q E U h=> ?_)
 obtain⟨x,z,qs,rfl,⟨dx,d,o,vs,hx,hd,O,hv⟩,k⟩:=h;refine⟨_,#[qe,3,#[qq,4,#[pe_dget1,7,QU U,#[qG,5,pv 0,rfl],pv 1,⟨1,1,1,1⟩]]],?_⟩
 try dsimp only [cxOf,Cx.nox]
 refine⟨0,x,a.qH,dx,_,0,hx,T.yK,T.QT,fld_by,d,1,.inl ⟨_,.inr ⟨o,hd⟩⟩,0,_,.inl ⟨_,Sum.inr z,.inr ⟨o,hd⟩,1,1⟩,?_⟩;refine k _ (λc=> ?_) λc=> ?_
 ·exact(look2 O hv c).2
 ·rw [look0 (by rw [O];exact c)]
  rfl
def rowT (zs:oj Str):D:= .tup (zs.map D.str)
noncomputable def rowG (acc:oj Str):oj Str->oj Str
 | []=>acc
 |z::r=>if isT (rowT (acc++ [z]))=true then rowG (acc++ [z]) r else acc
def sp_longest (K:o0):Sp:=λvs H Q _=>∃(L:o3) (zs:oj Str),vs= [.ref L]/\H L=some (.lst (zs.map V.str))/\(∀z∈zs,z.length<=100)/\zs.length<=100/\∀(v:V) (H':Hp),Same H H'->Is H' (rowT (rowG [] zs)) v->Q v H'
theorem cat1 {K:o0}{H:Hp}{a:o3}{xs:oj V}{x:V}{Q:VK}(ha:H a=some (.tup xs))(O:xs.length+1<=sizeLine)(k:∀p H',Same H H'->H' p=some (.tup (xs++ [x]))->Q (.ref p) H'):
  [x].length<=sizeLine/\∀q,H q=none->rCatG K (.ref a) (.ref q) (upd H q (.tup [x])) Q:=by
 refine⟨by show 1<=sizeLine;omega,λq U=> ?_⟩
 have s1:Same H (upd H q (.tup [x])):=qg U _;refine⟨a,q,xs,[x],1,1,SqT.of (s1 _ _ ha),SqT.of qf,O,λe=> ?_,(λ_ e=>by cases e),λ_ _ p hp=> ?_⟩
 ·refine k q _ s1 ?_;rw [e];exact qf
 ·exact k p _ (s1.trans (qg hp _)) qf
theorem is_row {H:Hp}{zs:oj Str}{p:o3}(h:H p=some (.tup (zs.map V.str)))(U:∀z∈zs,z.length<=100):Is H (rowT zs) (.ref p):=by
 have O:∀(zs:oj Str),(∀z∈zs,z.length<=100)->IsL H (zs.map D.str) (zs.map V.str):=by
  intro zs
  induction zs with
  |nil=>exact λ_=>rfl
  |cons z r ih=>
   intro h;exact⟨_,0,⟨1,fits (by have:=h z (ud ..);omega)⟩,ih λy hy=>h y (ub _ hy)⟩
 exact⟨p,0,h,O zs U⟩
theorem rowG_mem:∀(zs O:oj Str) (z:Str),z∈rowG O zs->z∈O∨z∈zs
 | [],O,z,h=> .inl h
 |y::r,O,z,h=>by
  unfold rowG at h;split at h
  ·rcases rowG_mem r _ z h with h|h
   ·rcases List.mem_append.mp h with h|h
    ·exact .inl h
    ·exact .inr (by rw [List.mem_singleton.mp h];exact ud ..)
   ·exact .inr (ub _ h)
  ·exact .inl h
def sp_looked (C:o3):Sp:=λvs H Q _=>∃(x t:o3) (kind text:Str) (qs:oj (Str×D)),vs= [.ref x,.ref t]/\yV C H x qs/\YH qs/\H t=some (.tup [.str kind,.str text])/\text.length<=1000/\
 ((kind="has"/\Q (.str (if text∈qs.map (·.1) then "yes" else "no")) H)∨
  (kind="names"/\∀(v:V) (H':Hp),Same H H'->Is H' (rowT (rowG [] ((qs.map (·.1)).filter λz=>Txt.startswith z text))) v->Q v H'))
theorem has_key {H:Hp}{qs:oj (Str×D)}{vs:oj (Str×V)}(O:vs.map (·.1)=qs.map (·.1))(hi:L2.IsL H (qs.map (·.2)) (vs.map (·.2)))(z:Str):(valV (inrK vs) (Sum.inr z)).isSome=decide (z∈qs.map (·.1)):=by
 by_cases c:z∈qs.map (·.1)
 ·rw [(look2 O hi c).1,uc c]
  rfl
 ·rw [look0 (by rw [O];exact c),ue c]
  rfl
theorem ok_longest (T:Tx K mg a):FnOk P w K mg base CX0 3 a.x8 a.xy ["names"] (sp_longest K):=by
 have ye:=YJ (P:=P) (w:=w) (base:=base) T;refine T.g_longest_row.F.ok yF () (λ_ _ _ _ H _ Q E hr h=> ?_)
 obtain⟨L,zs,rfl,hL,hz,hn,k⟩:=h;have hs:=uA;refine⟨_,#[qc,5,#[qC,2,(1),4,yF.nd,rfl,Or.inl rfl,#[qF,5,qd],_,_],#[qc,5,#[jv,8,v6,rfl,#[JT,4,pv 0],#[qO,2,(2),1,yF.nd,rfl,Or.inl rfl,_],#[qc,5,#[qI,8,#[Qp,4,#[Qe,3,#[qx,16,ye,hr.mono (),_,T.g_is_tree.m,T.g_is_tree.F.kp,T.g_is_tree.b,.nil,qB,#[qb,5,#[qZ,8,zO,pv 1,#[qF,5,#[qb,5,pv 2,qd,_]]],qd,_],_,_,_],_]],#[qe,3,ps_break],qw],#[qe,3,#[qC,2,(1),4,yF.nd,rfl,Or.inl rfl,#[qZ,8,zO,pv 1,#[qF,5,#[qb,5,pv 2,qd,_]]],_,_]]],_],#[qe,3,#[qq,4,pv 1]]]],?_⟩
 try dsimp only [cxOf,Cx.nox]
 refine⟨(sml rfl),λq hq=> ?_⟩;have s1:Same H (upd H q (.tup [])):=qg hq _;refine⟨0,L,1,⟨_,SqL.of (s1 _ _ hL)⟩,zx (K:=K) (a:=L) (xs:=zs.map V.str) (λi σ H'=>∃(row:oj Str) (p:o3) (kv:om V),σ= [some (.ref L),some (.ref p),kv]/\H' p=some (.tup (row.map V.str))/\Same H H'/\rowG row (zs.drop i)=rowG [] zs/\row.length<=i/\∀z∈row,z∈zs)
  ⟨[],q,none,1,qf,s1,1,ug _,λz h=>nomatch h⟩ (λi σ H' _ ⟨_,_,_,_,_,s2,_⟩=>SqL.of (s2 _ _ hL)) ?_ ?_⟩
 ·rintro i x σ H' hi ⟨row,p,kv,rfl,hp,s2,O,hl,hm⟩;have U:i<zs.length:=by
   have:=(List.getElem?_eq_some_iff.mp hi).1
   simpa using this
  obtain rfl:x=V.str zs[i]:=by
   rw [uF,uf U] at hi;exact(uE hi).symm
  have ed:zs.drop i=zs[i]::zs.drop (i+1):=v7 U;rw [ed] at O;rw [show rowG row (zs[i]::zs.drop (i+1))=if isT (rowT (row++ [zs[i]]))=true then rowG (row++ [zs[i]]) (zs.drop (i+1)) else row from rfl] at O
  have aa:∀z∈row++ [zs[i]],z∈zs:=λz h=>by
   rcases List.mem_append.mp h with h|h
   ·exact hm z h
   ·rw [List.mem_singleton.mp h];exact uT U
  have hsz:(row.map V.str).length+1<=sizeLine:=by rw [u9];omega
  have em:row.map V.str++ [V.str zs[i]]=(row++ [zs[i]]).map V.str:=by simp
  refine⟨0,0,cat1 hp hsz λp2 H3 s3 h3=>⟨_,rowT (row++ [zs[i]]),1,is_row (by rw [h3,em]) λz h=>hz z (aa z h),λH4 s4=>⟨0,?_⟩⟩⟩
  cases hT:isT (rowT (row++ [zs[i]])) with
  |false=>
   rw [if_neg (by rw [hT];exact u8)] at O
   refine iteT ⟨0,k _ H4 ((s2.trans s3).trans s4) ?_⟩;rw [<-O];exact is_row (s4 _ _ (s3 _ _ hp)) λz h=>hz z (hm z h)
  |true=>
   rw [if_pos hT] at O;refine iteF ⟨0,0,cat1 (s4 _ _ (s3 _ _ hp)) hsz λp5 H5 s5 h5=> ?_⟩;exact⟨row++ [zs[i]],p5,0,by rw [h5,em],((s2.trans s3).trans s4).trans s5,O,by rw [uD];show row.length+1<=i+1;omega,aa⟩
 ·rintro σ H' ⟨row,p,kv,rfl,hp,s2,O,hl,hm⟩;refine⟨0,k _ H' s2 ?_⟩;rw [u9,List.drop_length] at O;rw [<-O];exact is_row hp λz h=>hz z (hm z h)
theorem ok_looked (T:Tx K mg a):FnOk P w K mg base CX0 4 a.y2 a.Ye ["self","ask"] (sp_looked a.qH):=by
 have W3:=ok_longest (P:=P) (w:=w) (base:=base) T;refine T.g_Project_looked_up.F.ok Jl () (λ_ _ _ _ H vs Q E hr h=> ?_)
 obtain⟨x,t,kind,text,qs,rfl,⟨dx,d,o,vs,hx,hd,hk,hv⟩,U,ht,ad,h⟩:=h;have hs:=uA;refine⟨_,#[qc,5,#[qI,8,#[qr,8,QM,#[qL,7,qJ,pv 1,qk,(λ_ _=>rfl)],qm,qz _],#[qe,3,#[qq,4,#[Q2,8,#[pt_cmp,6,#[pc_din,5,QU hr,#[qL,7,qJ,pv 1,qk,(λ_ _=>rfl)],#[qG,5,pv 0,rfl]],_],qm,qm]]],qw],#[qe,3,#[qq,4,#[qx,16,W3,hr.mono (),_,T.g_longest_row.m,T.g_longest_row.F.kp,T.g_longest_row.b,.nil,qB,#[qb,5,#[JX,2,["name","ask"],(1),[1],9,lcsN (qi QH) ["self","ask"],rfl,#[pi_dicF,4,#[qG,5,pv 0,rfl]],(λ_ _ _ _ _ _=>#[qO,2,(0),1,(show List.Nodup (["name","ask"]:oj Str) by decide+kernel),rfl,Or.inl rfl,_]),(λ_ _ _ _ _ _=>#[pif_one,3,#[Qe,3,#[pe_bmK,1,K,11,rfl,uO,PySem.F.slot_str_startswith,PySem.F.type_str_startswith,mt_starts,pv 0,#[qb,5,#[qL,7,#[Zu,1,K,rfl],pv 1,qk,(λ_ _=>rfl)],qd,_],_,_,_,_,_],_]]),(λ_ _ _ _ _ _=>(pv 0)),_],qd,_],_,_,_]]]],?_⟩
 try dsimp only [cxOf,Cx.nox]
 refine⟨0,t,_,_,0,1,SqT.of ht,1,1,0,?_⟩;rcases h with⟨rfl,k⟩|⟨rfl,k⟩
 ·refine iteB (uc rfl) ?_;refine⟨0,t,_,_,0,1,SqT.of ht,1,0,x,a.qH,dx,_,0,hx,T.yK,T.QT,fld_by,d,0,.inl ⟨_,Sum.inr text,.inr ⟨o,hd⟩,1,1⟩,0,?_⟩;rw [has_key hk hv];by_cases c:text∈qs.map (·.1)
  ·rw [if_pos c] at k;exact iteB (uc c) k
  ·rw [if_neg c] at k;exact iteN (ue c) k
 ·refine iteN (by decide+kernel) ?_
  have O:(inrK vs).map (·.1)=(qs.map (·.1)).map Sum.inr:=by rw [Zc,hk]
  refine⟨0,x,a.qH,dx,_,0,hx,T.yK,T.QT,fld_by,d,o,0,hd,λA0 aa=> ?_⟩;refine lc_dicF (tl:= [some (.ref t)]) (λz=>Txt.startswith z text) V.str hd O (by rw [u9];have:=U.2.2;omega) aa (λz H1 R hz s1 r=> ?_) (λz H1 R hz s1 r=>⟨0,r⟩) λH1 s1 h1=> ?_
  ·exact⟨0,1,0,t,_,_,0,1,SqT.of (s1 _ _ ht),1,z,text,1,1,0,r⟩
  ·refine⟨A0,0,h1,λz hz=> ?_,?_,λv H2 s2 ac=>k v H2 (s1.trans s2) ac⟩
   ·have:=zq (U.1.1.1 z (List.mem_filter.mp hz).1);omega
   ·have:=List.length_filter_le (λz=>Txt.startswith z text) (qs.map (·.1));rw [u9] at this;have:=U.2.2;omega
def zI:D->Bool
 | .non=>true
 |_=>false
noncomputable def askOf:D->D
 | .tup [_,d]=>d
 |d=>d
def AnsOk (d:D):Prop:=d= .non∨isT d=true
def Gd (d:D):Prop:=good d=true/\dp d<=20
theorem gd_flt:∀z∈(["kind","big","told","silent","long","name"]:oj Str),good (flt z)=true:=by decide+kernel
theorem gd_f {z:Str}(h:z∈(["kind","big","told","silent","long","name"]:oj Str)):Gd (flt z):=⟨gd_flt z h,by show dp (.tup [.str "fault",.str z])<=20;simp [dp,dpL]⟩
theorem gd_two {u:Str}{d:D}(O:Qq u=true)(h:isT d=true):Gd (.tup [.str u,d]):=by
 have U:=yD h;have hd:=XN h;refine⟨?_,?_⟩
 ·simp only [good,goodL,O,U,vL]
  rfl
 ·simp only [dp,dpL];omega
theorem gd_three {u w:Str}{d:D}(O:Qq u=true)(U:Qq w=true)(h:isT d=true):Gd (.tup [.str u,.tup [.str w,d]]):=by
 have hg:=yD h;have hd:=XN h;refine⟨?_,?_⟩
 ·simp only [good,goodL,O,U,hg,vL]
  rfl
 ·simp only [dp,dpL];omega
theorem rowO_gd {own:Str}{n:Nat}{r:Rw}{B:Str->D}{p:Int}{e:D}(hr:jg n 300 r)(h:Tr B)(O:rowO own r B p= .stop e):Gd e:=by
 unfold rowO at O;obtain⟨ks,hk,hp⟩:=id hr;obtain⟨U,ps⟩:=r;by_cases c1:U∈MKR
 ·rw [if_pos c1] at O;simp only at O;generalize made U B own ps=dm at O;have aa:(if isT dm=true then Out.go (setB B (b0 ps) dm) (p+1) else .stop (flt "big"))= .stop e->Gd e:=by
   intro hq;by_cases c:isT dm=true
   ·rw [if_pos c] at hq;cases hq
   ·rw [if_neg c] at hq;cases hq;exact gd_f (by decide+kernel)
  cases dm with
  |non=>cases O;exact gd_f (by decide+kernel)
  |_=>exact aa O
 rw [if_neg c1] at O;by_cases c2:U∈ASK
 ·rw [if_pos c2] at O;cases O;obtain⟨_,_,ek⟩:=Zf _ hk c2;simp only at ek;subst ek;obtain⟨z0,z1,rfl,h0,h1⟩:=ZT hp;have hT:=h z1 h1;show Gd (askF U (B z1));unfold askF;by_cases d1:U="names"
  ·rw [if_pos d1];by_cases d2:isStr (B z1)=true
   ·rw [if_pos d2];exact gd_three (by decide+kernel) (by decide+kernel) hT
   ·rw [if_neg d2];exact gd_f (by decide+kernel)
  ·rw [if_neg d1];by_cases d2:isNm (B z1)=true
   ·rw [if_pos d2];refine gd_three (by decide+kernel) ?_ hT
    split<;>decide+kernel
   ·rw [if_neg d2];exact gd_f (by decide+kernel)
 rw [if_neg c2] at O;by_cases c3:U="say"
 ·rw [if_pos c3] at O;cases O;subst c3;have ek:=frm_say _ hk rfl;simp only at ek;subst ek;obtain⟨z0,rfl,h0⟩:=sh_b hp;exact gd_two (by decide+kernel) (h z0 h0)
 rw [if_neg c3] at O;by_cases c4:U="fault"
 ·rw [if_pos c4] at O;cases O;exact gd_f (by decide+kernel)
 rw [if_neg c4] at O;by_cases c5:jump U B ps=true
 ·rw [if_pos c5] at O;cases O
 ·rw [if_neg c5] at O;cases O
noncomputable def ansS (rs:oj Rw)(own:Str)(r:Rn)(a:D):Rn:=if zI a=true then⟨r.B,r.p,r.n+1,r.gs++ [.tup [askOf r.th,a]],flt "lack"⟩ else runS rs own (r.gs++ [.tup [askOf r.th,a]]) (300-(r.n+1)) (setB r.B (b0 (jR rs r.p).2) a) (r.p+1) (r.n+1)
structure RnOk (rs:oj Rw)(r:Rn):Prop where
 tr:Tr r.B
 p1:1<=r.p
 p2:r.p<=rs.length+1
 n:r.n<=300
 gd:Gd r.th
 two:∃w e,r.th= .tup [.str w,e]
 gs:nL r.gs=true/\dpL r.gs<=30/\r.gs.length<=r.n
 ask:QK r.th=true->r.p<=rs.length/\(jR rs r.p).1∈ASK/\r.n<300/\∃(u:Str) (d:D),r.th= .tup [.str "asks",.tup [.str u,d]]/\u∈(["thing","has","names"]:oj Str)/\isT d=true
mutual
theorem good_n:∀{d:D},good d=true->nD d=true
 | .str _,_=>rfl
 | .tup xs,h=>by
  simp only [good,ur] at h;simp only [nD];exact goodL_n h.2
 | .non,h=>by simp [good] at h
 | .bl _,h=>by simp [good] at h
 | .int _,h=>by simp [good] at h
 | .lst,h=>by simp [good] at h
 | .dct,h=>by simp [good] at h
theorem goodL_n:∀{ds:oj D},goodL ds=true->nL ds=true
 | [],_=>rfl
 |d::ds,h=>by
  simp only [goodL,ur] at h;simp only [nL];rw [good_n h.1,goodL_n h.2]
  rfl
end
theorem nL_app:∀{xs ys:oj D},nL xs=true->nL ys=true->nL (xs++ys)=true
 | [],_,_,h=>h
 |x::xs,ys,h,h2=>by
  simp only [nL,ur] at h;simp only [Ul,nL];rw [h.1,nL_app h.2 h2]
  rfl
theorem dpL_app (n:Nat){xs ys:oj D}(h:dpL xs<=n)(h2:dpL ys<=n):dpL (xs++ys)<=n:=by
 rw [zJ] at h h2⊢;intro x O;rcases List.mem_append.mp O with O|O
 ·exact h x O
 ·exact h2 x O
theorem rowO_ask {own:Str}{n:Nat}{r:Rw}{B:Str->D}{p:Int}{e:D}(hr:jg n 300 r)(h:Tr B)(O:rowO own r B p= .stop e)(U:QK e=true):r.1∈ASK/\∃(u:Str) (d:D),e= .tup [.str "asks",.tup [.str u,d]]/\u∈(["thing","has","names"]:oj Str)/\isT d=true:=by
 unfold rowO at O;obtain⟨ks,hk,hp⟩:=id hr;obtain⟨r1,ps⟩:=r;by_cases c1:r1∈MKR
 ·rw [if_pos c1] at O;simp only at O;generalize made r1 B own ps=dm at O;have aa:(if isT dm=true then Out.go (setB B (b0 ps) dm) (p+1) else .stop (flt "big"))= .stop e->False:=by
   intro hq;by_cases c:isT dm=true
   ·rw [if_pos c] at hq;cases hq
   ·rw [if_neg c] at hq;cases hq;exact absurd U (by decide+kernel)
  cases dm with
  |non=>cases O;exact absurd U (by decide+kernel)
  |_=>exact(aa O).elim
 rw [if_neg c1] at O;by_cases c2:r1∈ASK
 ·rw [if_pos c2] at O;cases O;refine⟨c2,?_⟩;obtain⟨_,_,ek⟩:=Zf _ hk c2;simp only at ek;subst ek;obtain⟨z0,z1,rfl,h0,h1⟩:=ZT hp;have hT:=h z1 h1;have U:QK (askF r1 (B z1))=true:=U;show∃u d,askF r1 (B z1)=_/\_;unfold askF at U⊢;by_cases d1:r1="names"
  ·rw [if_pos d1] at U⊢;by_cases d2:isStr (B z1)=true
   ·rw [if_pos d2];exact⟨_,0,by decide+kernel,hT⟩
   ·rw [if_neg d2] at U;exact absurd U (by decide+kernel)
  ·rw [if_neg d1] at U⊢;by_cases d2:isNm (B z1)=true
   ·rw [if_pos d2];exact⟨_,0,by split<;>decide+kernel,hT⟩
   ·rw [if_neg d2] at U;exact absurd U (by decide+kernel)
 rw [if_neg c2] at O;by_cases c3:r1="say"
 ·rw [if_pos c3] at O;cases O;exact absurd U (by simp only [QK];exact λh=>absurd (uh h) (by decide+kernel))
 rw [if_neg c3] at O;by_cases c4:r1="fault"
 ·rw [if_pos c4] at O;cases O;exact absurd U (by decide+kernel)
 rw [if_neg c4] at O;by_cases c5:jump r1 B ps=true
 ·rw [if_pos c5] at O;cases O
 ·rw [if_neg c5] at O;cases O
theorem runS_ok {rs:oj Rw}{own:Str}(hR:QY rs):∀(f:Nat) (B:Str->D) (p:Int) (n:Nat) (gs:oj D),f+n=300->Tr B->1<=p->p<=rs.length+1->nL gs=true/\dpL gs<=30/\gs.length<=n->RnOk rs (runS rs own gs f B p n)
 |0,B,p,n,gs,hf,hT,h1,h2,hg=>by
  have U:QK (if p>rs.length then flt "silent" else flt "long")=false:=by split<;>decide+kernel
  refine⟨hT,h1,h2,by show n<=300;omega,?_,?_,hg,λh=>absurd (U.symm.trans h) (by decide)⟩
  ·show Gd (if p>rs.length then flt "silent" else flt "long")
   split
   ·exact gd_f (by decide+kernel)
   ·exact gd_f (by decide+kernel)
  ·show∃w e,(if p>rs.length then flt "silent" else flt "long")=_
   split
   ·exact⟨_,0⟩
   ·exact⟨_,0⟩
 |f+1,B,p,n,gs,hf,hT,h1,h2,hg=>by
  unfold runS;by_cases c:p>rs.length
  ·rw [if_pos c];exact⟨hT,h1,h2,by show n<=300;omega,gd_f (by decide+kernel),⟨_,0⟩,hg,λh=>absurd h (show¬QK (flt "silent")=true by decide+kernel)⟩
  ·rw [if_neg c];have O:=hR.ok _ (Wp h1 (by omega))
   have hok:=rowO_ok (own:=own) O hT h1 (by omega)
   cases hO:rowO own (jR rs p) B p with
   |go B' p'=>
    rw [hO] at hok;exact runS_ok hR f B' p' (n+1) gs (by omega) hok.1 hok.2.1 hok.2.2 ⟨hg.1,hg.2.1,by have:=hg.2.2;omega⟩
   |stop e=>
    rw [hO] at hok;simp only;refine⟨hT,h1,h2,?_,rowO_gd O hT hO,hok,⟨hg.1,hg.2.1,?_⟩,λU=> ?_⟩
    ·show(if QK e=true then n else n+1)<=300
     split<;>omega
    ·show gs.length<=(if QK e=true then n else n+1)
     have:=hg.2.2;split<;>omega
    ·obtain⟨a1,u,d,a2,a3,a4⟩:=rowO_ask O hT hO U;refine⟨by show p<=rs.length;omega,a1,?_,u,d,a2,a3,a4⟩
     show(if QK e=true then n else n+1)<300
     rw [if_pos (show QK e=true from U)]
     omega
theorem ansS_ok {rs:oj Rw}{own:Str}(hR:QY rs){r:Rn}{a:D}(h:RnOk rs r)(hw:QK r.th=true)(ha:AnsOk a):RnOk rs (ansS rs own r a):=by
 obtain⟨k1,k2,k3,u,d,e,k4,k5⟩:=h.ask hw;have O:nD a=true/\dp a<=12:=by
  rcases ha with rfl|ha
  ·exact⟨1,by simp [dp]⟩
  ·exact⟨good_n (yD ha),XN ha⟩
 have aa:=XN k5;have U:nL (r.gs++ [D.tup [askOf r.th,a]])=true/\dpL (r.gs++ [D.tup [askOf r.th,a]])<=30/\(r.gs++ [D.tup [askOf r.th,a]]).length<=r.n+1:=by
  rw [e];show nL (r.gs++ [.tup [.tup [.str u,d],a]])=true/\_;refine⟨nL_app h.gs.1 ?_,dpL_app 30 h.gs.2.1 ?_,?_⟩
  ·simp only [nL,nD,good_n (yD k5),O.1,vL]
  ·show dpL [.tup [.tup [.str u,d],a]]<=30;simp only [dpL,dp];have:=O.2;omega
  ·rw [uD];have:=h.gs.2.2;show r.gs.length+1<=r.n+1;omega
 unfold ansS;cases hn:zI a with
 |true=>
  rw [if_pos rfl];exact⟨h.tr,h.p1,h.p2,by show r.n+1<=300;omega,⟨(by decide+kernel:good (flt "lack")=true),by show dp (.tup [.str "fault",.str "lack"])<=20;simp [dp,dpL]⟩,⟨_,0⟩,U,λh=>absurd h (show¬QK (flt "lack")=true by decide+kernel)⟩
 |false=>
  rw [if_neg u8];have hT:isT a=true:=by
   rcases ha with rfl|ha
   ·cases hn
   ·exact ha
  refine runS_ok hR _ _ _ _ _ (by omega) (Wq h.tr hT) (by have:=h.p1;omega) (by omega) U
theorem Xp {H:Hp}{d:D}{u:V}(O:Is H d u)(U:d≠ .non):u≠ .non:=by
 rintro rfl;cases d with
 |non=>exact U rfl
 |bl b=>cases(show V.non= .bl b from O)
 |int i=>cases(show V.non= .int i from O)
 |str z=>obtain⟨h,_⟩:=O;cases h
 |lst=>obtain⟨_,_,h,_⟩:=O;cases h
 |dct=>obtain⟨_,_,h,_⟩:=O;cases h
 |tup xs=>obtain⟨_,_,h,_⟩:=O;cases h
theorem ask_sh {n:Nat}{r:Rw}(O:jg n 300 r)(hs:r.1∈ASK):∃U z1,r.2= [.s U,.s z1]/\U∈BX:=by
 obtain⟨ks,hk,hp⟩:=id O;obtain⟨_,_,ek⟩:=Zf _ hk hs;simp only at ek;subst ek;obtain⟨x,y,e,hx,hy⟩:=ZT hp;exact⟨x,y,e,hx⟩
def isRow:D->Bool
 | .tup xs=>xs.all isNm
 |_=>false
noncomputable def ansB (u:Str)(a:D):Bool:=if zI a=true then decide (u="thing") else if isT a=true then(if u="has" then(["yes","no"]:oj Str).any (λz=>eqD a (.str z)) else decide (u="thing")||isRow a) else false
theorem ansB_ok {u:Str}{a:D}(h:ansB u a=true):AnsOk a:=by
 unfold ansB at h;cases hn:zI a with
 |true=>
  cases a with
  |non=>exact .inl rfl
  |_=>cases hn
 |false=>
  rw [hn,if_neg u8] at h;by_cases c:isT a=true
  ·exact .inr c
  ·rw [if_neg c] at h;cases h
def sp_rown:Sp:=λvs H Q _=>∃(v:V) (d:D),vs= [v]/\Is H d v/\isT d=true/\∀H',Same H H'->Q (.bl (isRow d)) H'
def sp_isans:Sp:=λvs H Q _=>∃(v1 v2:V) (u:Str) (d a:D),vs= [v1,v2]/\Is H (.tup [.str u,d]) v1/\Is H a v2/\∀H',Same H H'->Q (.bl (ansB u a)) H'
def sp_ans (C:o3):Sp:=λvs H Q _=>∃(m:Mc) (r:Rn) (v:V) (u:Str) (d a:D),vs= [.ref m.x,v]/\yI C H m r/\RnOk m.rs r/\r.th= .tup [.str "asks",.tup [.str u,d]]/\Is H a v/\QY m.rs/\m.own.length<=100/\ansB u a=true/\
 ∀H',Mv m H H'->yI C H' m (ansS m.rs m.own r a)->Q .non H'
theorem ok_rown (T:Tx K mg a):FnOk P w K mg base CX0 2 a.YE a.YK ["tree"] sp_rown:=by
 have QQ:=Xg (P:=P) (w:=w) (base:=base) T;refine T.g_is_row_of_names.F.ok xJ () (λ_ _ _ _ H vs Q E hr h=> ?_)
 obtain⟨v,d,rfl,iv,hT,k⟩:=h;refine⟨_,#[qe,3,#[qq,4,#[wp,7,#[qy,9,#[qM,2,rfl],_,T.qE,uK,#[qb,5,pv 0,#[qb,5,#[QN,2,.ty "tuple",2,_,T.Qz,vf,rfl,_,_],qd,_],_],_,_,_,_],#[XJ,5,#[qy,9,#[Zb,1,rfl],_,T.z_all,boot_all,#[qb,5,#[JX,2,["part"],(1),[],9,lcs0,rfl,#[zS,4,pv 0],(λ_ _ _ _ _ _=>#[qO,2,(0),1,(show List.Nodup (["part"]:oj Str) by decide+kernel),rfl,Or.inl rfl,_]),(λ_ _ _ _ _ _=> @Q5 _),(λ_ _ _ _ _ _=>#[qx,16,QQ,hr.mono (),_,T.g_is_name.m,T.g_is_name.F.kp,T.g_is_name.b,.nil,qB,#[qb,5,pv 0,qd,_],_,_,_]),_],qd,_],_,_,_,_]]]]],?_⟩
 try dsimp only [cxOf,Cx.nox]
 refine⟨0,v,"tuple",tyD d,xN d,1,iv.ty,jL _,?_⟩;cases d with
 |tup xs=>
  refine⟨0,iteT ?_⟩;obtain⟨a0,vs,rfl,O,U⟩:=iv;have hl:xs.length<=1000:=by
   have hg:=yD hT;simp only [good,ur] at hg;have:=uh hg.1;omega
  refine⟨0,a0,vs,1,SqT.of O,λac A0 aa=> ?_⟩;refine WV (tl:= []) (λd=> .bl (isNm d)) O U (yq hl) aa (λd0 x0 H3 R ad s3 i3 r=> ?_) λH1 ys s1 l1 i1=> ?_
  ·exact⟨0,x0,d0,1,i3,λH4 s4=>r _ H4 s4 rfl⟩
  have ey:ys=(xs.map isNm).map V.bl:=IsL.bls (by rw [uG];exact i1)
  refine⟨A0,xs.map isNm,1,SqL.of (by rw [l1,ey]),?_⟩
  have:(xs.map isNm).all id=isRow (.tup xs):=by rw [Up];rfl
  rw [this];exact k H1 s1
 |str z=>exact⟨0,iteF (k H (Same.refl _))⟩
 |non=>exact⟨0,iteF (k H (Same.refl _))⟩
 |int z=>exact⟨0,iteF (k H (Same.refl _))⟩
 |bl z=>exact⟨0,iteF (k H (Same.refl _))⟩
 |lst=>exact⟨0,iteF (k H (Same.refl _))⟩
 |dct=>exact⟨0,iteF (k H (Same.refl _))⟩
theorem ok_isans (T:Tx K mg a):FnOk P w K mg base CX0 3 a.ZN a.ZV ["ask","answer"] sp_isans:=by
 have ye:=YJ (P:=P) (w:=w) (base:=base) T;have Xe:=ok_rown (P:=P) (w:=w) (base:=base) T;refine T.g_is_answer.F.ok sc_is_answer () (λ_ _ _ _ H _ Q E hr h=> ?_)
 obtain⟨v1,v2,u,d,an,rfl,i1,U,k⟩:=h;refine⟨_,#[qc,5,#[qI,8,#[qr,8,yT,pv 1,qQ,qz _],#[qe,3,#[qq,4,#[yo,8,QM,#[qL,7,Jt,pv 0,qk,(λ_ _=>rfl)],qm,qz _]]],qw],#[qc,5,#[qI,8,#[Qp,4,#[Qe,3,#[qx,16,ye,hr.mono (),_,T.g_is_tree.m,T.g_is_tree.F.kp,T.g_is_tree.b,.nil,qB,#[qb,5,pv 1,qd,_],_,_,_],_]],#[qe,3,#[qq,4,YR]],qw],#[qc,5,#[qI,8,#[qr,8,QM,#[qL,7,Jt,pv 0,qk,(λ_ _=>rfl)],qm,qz _],#[qe,3,#[qq,4,#[yo,8,#[op_inM,1,hr.units],pv 1,#[qF,5,#[qb,5,qm,#[qb,5,qm,qd,_],_]],(by with_unfolding_all rfl)]]],qw],#[qe,3,#[qq,4,#[pe_or,7,#[yo,8,QM,#[qL,7,Jt,pv 0,qk,(λ_ _=>rfl)],qm,qz _],#[XJ,5,#[qx,16,Xe,hr.mono (),_,T.g_is_row_of_names.m,T.g_is_row_of_names.F.kp,T.g_is_row_of_names.b,.nil,qB,#[qb,5,pv 1,qd,_],_,_,_]]]]]]]],?_⟩
 try dsimp only [cxOf,Cx.nox]
 have two:(2:Nat)<=sizeLine:=by decide
 have es:∀y:Str,decide (V.str u=V.str y)=decide (u=y):=λy=>by
  rw [uR];exact⟨λh=>by injection h,λh=>by rw [h]⟩
 have iu:∀{H:Hp}{Q:VK},Is H (.tup [.str u,d]) v1->Q (.str u) H->rIxT K v1 (.int 0) H Q:=λ{H Q} i q=>JO (i:=0) (d:= .str u) i (QW (j:=0) rfl) λx hx=>by
  obtain⟨rfl,_⟩:=hx;exact q
 refine⟨0,1,0,?_⟩;unfold ansB at k;by_cases cn:an= .non
 ·subst cn;cases(show v2= .non from U)
  refine Qy (by decide+kernel) ?_
  refine⟨0,.inr (.inl (iu i1 ⟨1,?_⟩))⟩;rw [es];exact k H (Same.refl _)
 ·have aa:v2≠ .non:=Xp U cn;have ac:zI an=false:=by
   cases an with
   |non=>exact absurd rfl cn
   |_=>rfl
  rw [ac,if_neg u8] at k;refine Qi (ue aa) ?_;refine⟨0,v2,an,1,U,λH1 s1=>⟨0,?_⟩⟩;by_cases O:isT an=true
  ·rw [if_pos O] at k;rw [O];refine iteF ?_;refine⟨0,.inr (.inl (iu (i1.mono s1.tk) ⟨1,0,?_⟩))⟩;rw [es];by_cases ch:u="has"
   ·rw [if_pos ch] at k;refine Qy (uc ch) ?_;refine⟨0,two,λt1 h1=> ?_⟩;have s2:=qg h1 (.tup [.str "yes",.str "no"]);refine⟨an,t1,["yes","no"],(U.mono s1.tk).mono s2.tk,1,.inr (SqT.of qf),?_,?_,?_,k _ (s1.trans s2)⟩
    ·intro z hz;simp only [uB,v5,uM] at hz;rcases hz with rfl|rfl<;>decide+kernel
    ·have hg:=yD O;cases an with
     |non=>rfl
     |str z=>rfl
     |tup xs=>
      show puL xs=true;simp only [good,ur] at hg;exact goodL_pu hg.2
     |_=>simp [good] at hg
    ·have:=XN O;omega
   ·rw [if_neg ch] at k;refine Qi (ue ch) ?_;refine⟨0,.inr (.inl (iu (i1.mono s1.tk) ⟨1,?_⟩))⟩;refine⟨0,?_⟩;rw [es];by_cases ct:u="thing"
    ·rw [uc ct] at k⊢;refine iteT ?_;exact k _ s1
    ·rw [ue ct] at k⊢;refine iteF ?_;exact⟨0,v2,an,1,U.mono s1.tk,O,λH2 s2=>k H2 (s1.trans s2)⟩
  ·rw [if_neg O] at k;have:isT an=false:=by
    cases h:isT an with
    |true=>exact absurd h O
    |false=>rfl
   rw [this];exact iteT (k _ s1)
theorem ok_ans (T:Tx K mg a)(C:Fx K w mg g a):FnOk P w K mg base CX0 6 a.jd a.Y7 ["self","tree"] (sp_ans a.ql):=by
 have Qg:=ok_wait (P:=P) (w:=w) (base:=base) T;have O:=ok_isans (P:=P) (w:=w) (base:=base) T;have Yf:=ok_goon (P:=P) (w:=w) (base:=base) T C;refine T.g_Machine_answer.F.ok YI () (λ_ _ _ _ H _ Q E hr h=> ?_)
 obtain⟨m,⟨B,p,n,gs,th⟩,v,u,d,an,rfl,M,hO,am,iv,hR,aQ,ao,k⟩:=h;refine⟨_,#[qc,5,#[qI,8,#[Qp,4,#[Qe,3,#[Q3,17,pv 0,T.qp,T.g_Machine_is_waiting.h,Qg,hr.mono (),T.g_Machine_is_waiting.b,.nil,qB,_],_]],#[qe,3,YO],qw],#[qc,5,#[qC,2,(2),4,YI.nd,rfl,Or.inl rfl,#[qL,7,Jt,#[qG,5,pv 0,rfl],qk,(λ_ _=>rfl)],_,_],#[qc,5,#[qI,8,#[Qp,4,#[Qe,3,#[qx,16,O,hr.mono (),_,T.g_is_answer.m,T.g_is_answer.F.kp,T.g_is_answer.b,.nil,qB,#[qb,5,pv 2,#[qb,5,pv 1,qd,_],_],_,_,_],_]],#[qe,3,YO],qw],#[qc,5,#[qU,4,#[jU,12,uY,vT,vU,jP,#[qG,5,pv 0,rfl],#[qb,5,#[qF,5,#[qb,5,pv 2,#[qb,5,pv 1,qd,_],_]],qd,_],_,_,_,_,_],_],#[qc,5,#[jN,10,pv 0,qk,in_add],#[qc,5,#[qI,8,#[qr,8,yT,pv 1,qQ,qz _],#[qc,5,#[qX,8,pv 0,#[qF,5,#[qb,5,qm,#[qb,5,qm,qd,_],_]],rfl],#[qe,3,ps_retN]],qw],#[qc,5,#[xa,9,QU hr,#[qG,5,pv 0,rfl],#[qL,7,Jt,#[qL,7,Jt,#[qL,7,qJ,#[qG,5,pv 0,rfl],#[qZ,8,op_sub,#[qG,5,pv 0,rfl],qk],(λ_ _=>rfl)],qk,(λ_ _=>rfl)],qk,(λ_ _=>rfl)],pv 1,rfl],#[qc,5,#[jN,10,pv 0,qk,in_add],#[qc,5,#[qX,8,pv 0,qQ,rfl],#[qe,3,#[qU,4,#[Q3,17,pv 0,T.qp,T.g_Machine_go_on.h,Yf,hr.mono (),T.g_Machine_go_on.b,.nil,qB,_],_]]]]]]]]]]],?_⟩
 try dsimp only [cxOf,Cx.nox]
 simp only at am;subst am;have two:(2:Nat)<=sizeLine:=by decide
 have hw:QK (.tup [.str "asks",.tup [.str u,d]])=true:=by simp [QK]
 obtain⟨ag,ae,aR,_⟩:=hO.ask hw;have ah:=hO.p1;have ap:=hO.gs.2.2;have aq:=hO.tr;simp only at ag ae aR ah ap aq;have hM:=M;obtain⟨dx,fs,rv,ru,tv,gv,e,f,ir,ij,ib,hg,gl,it⟩:=hM;simp only at f ib gl it;have aS:fs.length<1000:=by have:=f.len;omega
 refine Qt λN1 q1=> ?_;refine⟨0,m.x,dx,fs,1,e,f.meth _ (by decide+kernel),m,0,M,.inr ⟨_,0⟩,0,?_⟩
 refine Qi (by show(!QK (.tup [.str "asks",.tup [.str u,d]]))=false;rw [hw];rfl) ?_
 refine q1 _ _ ?_;refine Qt λN2 q2=> ?_;refine⟨0,m.x,_,dx,fs,0,e,T.qp,T.qD,f.there,.inr (.inl (JO (i:=1) it (QW (j:=1) rfl) λq hq=> ?_))⟩;refine q2 _ _ ?_;refine Qt λN3 q3=> ?_;refine⟨0,0,q,v,u,d,an,1,hq,iv,λH1 s1=>⟨0,?_⟩⟩;rw [ao];refine iteF ?_;refine q3 _ _ ?_;refine Qt λN4 q4=> ?_;have ha:=ansB_ok ao;refine⟨0,m.x,_,dx,fs,0,s1 _ _ e,T.qp,T.Ya,f.given,.inl ⟨1,_,SqL.of (s1 _ _ hg)⟩,0,0,two,λt1 h1=> ?_⟩;have s2:=qg h1 (.tup [q,v]);have ip:Is (upd H1 t1 (.tup [q,v])) (.tup [.tup [.str u,d],an]) (.ref t1):=Is.new (ds:= [.tup [.str u,d],an]) ⟨_,0,hq.mono s1.tk,_,0,iv.mono s1.tk,1⟩ h1;have S2:=s1.trans s2;generalize upd H1 t1 (.tup [q,v])=H2 at s2 ip S2⊢;have bo:gv.length=gs.length:=gl.length;have au:=S2 _ _ hg;refine⟨m.dg,gv,0,1,au,xL (by omega),?_⟩
 have t3:Tk H2 (upd H2 m.dg (.lst (gv++ [.ref t1]))):=Tk.updL au;have aT:m.x≠m.dg:=λz=>by rw [<-z,e] at hg;cases hg
 have aw:m.db≠m.dg:=λz=>by
  obtain⟨ff,e2,_⟩:=ib;rw [z,hg] at e2;cases e2
 have e3:(upd H2 m.dg (.lst (gv++ [.ref t1]))) m.x=some (.ins a.ql dx fs):=by rw [qh aT];exact S2 _ _ e
 have T3:Tk H (upd H2 m.dg (.lst (gv++ [.ref t1]))):=S2.tk.trans t3;have ax:=(ib.same S2).move t3 (qh aw);have ay:L2.IsL (upd H2 m.dg (.lst (gv++ [.ref t1]))) (gs++ [.tup [.tup [.str u,d],an]]) (gv++ [.ref t1]):=(gl.mono T3).append (IsL.one (ip.mono t3));have aA:(upd H2 m.dg (.lst (gv++ [.ref t1]))) m.dg=some (.lst (gv++ [.ref t1])):=qf;have aB:Mv m H (upd H2 m.dg (.lst (gv++ [.ref t1]))):=⟨λb o h _ _ n3=>by rw [qh n3];exact S2 b o h,T3⟩
 generalize upd H2 m.dg (.lst (gv++ [.ref t1]))=H3 at t3 e3 T3 ax ay aA aB⊢;refine q4 _ _ ?_;refine Qt λN5 q5=> ?_;refine⟨0,m.x,_,dx,fs,0,e3,T.qp,T.Q0,f.done,(n:Int),(1),1,1,dx,fs,e3,aS,?_⟩;obtain⟨M4,aC⟩:=Q9 (r:=⟨B,p,n+1,gs++ [.tup [.tup [.str u,d],an]],.tup [.str "asks",.tup [.str u,d]]⟩) e3 (f.set_done (k:=n+1)) (ir.mono T3) (ij.mono T3) ax aA ay (it.mono T3);have ac:=aB.trans aC;have aD:=iv.mono ac.tk;refine q5 _ _ ?_;show tSeq _ _ _ _ (upd H3 m.x (.ins a.ql dx (putF "done" (.int ((n+1:Nat):Int)) fs)));generalize upd H3 m.x (.ins a.ql dx (putF "done" (.int ((n+1:Nat):Int)) fs))=H4 at M4 aC ac aD⊢;obtain⟨aa,U,bp,bq,bt,bu,e4,f4,ak,aE,ad,aF,al,aG⟩:=M4;simp only at f4 ad al aG;have af:U.length<1000:=by have:=f4.len;omega
 refine Qt λN6 q6=> ?_;refine⟨0,1,0,?_⟩;by_cases cn:an= .non
 ·subst cn;cases(show v= .non from iv)
  refine Qy (by decide+kernel) ?_
  refine⟨two,λl hl=> ?_⟩;have s5:=qg hl (.tup [.str "fault",.str "lack"]);refine⟨0,m.x,_,aa,U,1,s5 _ _ e4,T.qp,T.qD,af,?_⟩;obtain⟨m1,m2⟩:=Q9 (r:=⟨B,p,n+1,gs++ [.tup [.tup [.str u,d],.non]],flt "lack"⟩) (s5 _ _ e4) (f4.set_there (u:= .ref l)) (ak.mono s5.tk) (aE.mono s5.tk) (ad.same s5) (s5 _ _ aF) (al.mono s5.tk) (Is.new (ds:= [.str "fault",.str "lack"]) ⟨_,0,⟨1,yq (by decide)⟩,_,0,⟨1,yq (by decide)⟩,1⟩ hl)
  exact k _ (ac.trans ((Mv.of s5).trans m2)) m1
 ·have hT:isT an=true:=ha.resolve_left cn;have aU:v≠ .non:=Xp iv cn;have aV:zI an=false:=by
   cases an with
   |non=>exact absurd rfl cn
   |_=>rfl
  refine Qi (ue aU) ?_;refine q6 _ _ ?_;refine Qt λN7 q7=> ?_;obtain⟨z0,z1,aH,aW⟩:=ask_sh (hR.ok _ (Wp ah ag)) ae;have aX:b0 (jR m.rs p).2=z0:=by rw [aH];rfl
  obtain⟨kvs,aI,aY,t5⟩:=ad.put aW aD;have aZ:atI (m.rs.map rowD) (p-1)=some (rowD (jR m.rs p)):=by
   rw [show p-1=((p.toNat-1:Nat):Int) by omega]
   exact QW (by rw [uF,row_at ah ag];rfl)
  have a1:m.db≠m.x:=yW.ne e4 ad;have a3:m.dg≠m.db:=aw.symm;refine⟨0,0,m.x,_,aa,U,0,e4,T.qp,T.Qn,f4.boxes,0,m.x,_,aa,U,0,e4,T.qp,T.yE,f4.rows,0,m.x,_,aa,U,0,e4,T.qp,T.Qc,f4.place,_,0,1,?_⟩;refine JO (d:=rowD (jR m.rs p)) ak aZ λq5 a4=> ?_;refine .inr (.inl (JO (i:=1) a4 (QW (j:=1) rfl) λq6 aJ=> ?_));rw [aH] at aJ;refine .inr (.inl (JO (i:=0) (d:= .str z0) aJ (QW (j:=0) rfl) λq7 a5=> ?_));obtain⟨rfl,_⟩:=a5;refine⟨m.db,0,aI,?_⟩;have e5:(upd H4 m.db (.dK kvs)) m.x=some (.ins a.ql aa U):=by rw [qh a1.symm];exact e4
  refine q7 _ _ ?_;refine Qt λN8 q8=> ?_;refine⟨0,m.x,_,aa,U,0,e5,T.qp,T.Qc,f4.place,p,(1),1,1,aa,U,e5,af,?_⟩;obtain⟨M6,a6⟩:=Q9 (r:=⟨setB B z0 an,p+1,n+1,gs++ [.tup [.tup [.str u,d],an]],.tup [.str "asks",.tup [.str u,d]]⟩) e5 (f4.set_place (q:=p+1)) (ak.mono t5) (aE.mono t5) aY (by rw [qh a3];exact aF) (al.mono t5) (aG.mono t5)
  have aK:=ac.trans (Mv.trans ⟨λb o h _ a2 _=>by rw [qh a2];exact h,t5⟩ a6)
  obtain⟨a7,aL,bv,bw,bx,bA,e6,f6,a8,a9,aM,bb,aN,bc⟩:=M6;simp only at f6 aM aN bc;have aO:aL.length<1000:=by have:=f6.len;omega
  refine q8 _ _ ?_;refine Qt λN9 q9=> ?_;refine⟨0,m.x,_,a7,aL,1,e6,T.qp,T.qD,aO,?_⟩;obtain⟨M7,bd⟩:=Q9 (r:=⟨setB B z0 an,p+1,n+1,gs++ [.tup [.tup [.str u,d],an]],.non⟩) e6 (f6.set_there (u:= .non)) a8 a9 aM bb aN rfl;have aP:=aK.trans bd;obtain⟨bf,bg,bB,bC,bD,bE,e7,f7,r7⟩:=id M7;refine q9 _ _ ?_;refine⟨0,m.x,bf,bg,1,e7,f7.meth _ (by decide+kernel),m,0,M7,1,Wq aq hT,aQ,hR,by show 1<=p+1;omega,by show p+1<=_;omega,by show n+1<=300;omega,λH8 bh M8=>k H8 (aP.trans bh) ?_⟩
  unfold ansS;rw [aV,if_neg u8];simp only;rw [aX];exact M8
def PotQ (H:Hp)(p:o3):Prop:=∃x:Int,H p=some (.lst [.int x])/\0<=x
theorem PotQ.same {H H':Hp}{p:o3}(h:PotQ H p)(s:Same H H'):PotQ H' p:=by
 obtain⟨x,e,r⟩:=h;exact⟨x,s _ _ e,r⟩
theorem PotQ.free {H:Hp}{p l:o3}(h:PotQ H p)(n:H l=none):p≠l:=by
 obtain⟨x,e,r⟩:=h;exact qj e n
theorem PotQ.tk {H H':Hp}{p:o3}(h:PotQ H p)(h':PotQ H' p)(k:Kept p H H'):Tk H H':=by
 obtain⟨x,e,_⟩:=h;obtain⟨U,O,_⟩:=h';exact k.tk e O
def sp_takQ:Sp:=λvs H Q _=>∃(p:o3) (many:Int),vs= [.ref p,.int many]/\PotQ H p/\0<many/\many<1073741824/\∀(d:Int) (H':Hp),0<=d->d<many->PotQ H' p->Kept p H H'->Q (.int d) H'
def sp_potQ:Sp:=λvs H Q _=>∃(c t:Int),vs= [.int c,.int t]/\0<=t/\t<1000/\∀(p:o3) (H':Hp),H p=none->Same H H'->PotQ H' p->Q (.ref p) H'
theorem Xt (T:Tx K mg a):FnOk P w K mg base CX0 1 a.w8 a.wG ["pot","many"] sp_takQ:=by
 refine T.g_law_take.F.ok Zx () (λ_ _ _ _ H _ Q E hr h=> ?_)
 obtain⟨p,many,rfl,⟨x,O,hx⟩,hm,U,k⟩:=h;refine⟨_,#[qc,5,#[qC,2,(2),4,Zx.nd,rfl,Or.inl rfl,#[qZ,8,wm,#[qL,7,Yz,pv 0,qk,(λ_ _=>rfl)],pv 1],_,_],#[qc,5,#[ps_asg,6,#[qZ,8,op_fdiv,#[qL,7,Yz,pv 0,qk,(λ_ _=>rfl)],pv 1],#[pg_sub,7,pv 0,qk,set_list,_],_,_,_],#[qe,3,#[qq,4,pv 2]]]],?_⟩
 try dsimp only [cxOf,Cx.nox]
 refine⟨0,p,_,_,0,1,SqL.of O,1,0,_,0,1,hm,?_⟩;refine⟨0,p,_,_,0,1,SqL.of O,1,0,_,0,1,⟨hm,U⟩,0,p,_,_,0,1,O,1,?_⟩;refine⟨0,?_⟩;refine k _ _ (Int.emod_nonneg _ (by omega)) (UA _ hm) ⟨x/many,qf,Int.ediv_nonneg hx (by omega)⟩ (Kept.upd _ _ _)
theorem ok_potQ (T:Tx K mg a):FnOk P w K mg base CX0 1 a.f_law_pot a.d_law_pot ["cell","salt"] sp_potQ:=by
 refine T.g_law_pot.F.ok yZ () (λ_ _ _ _ H _ Q E hr h=> ?_)
 obtain⟨c,t,rfl,h0,h1,k⟩:=h;refine⟨_,#[qc,5,#[qI,8,#[qr,8,op_ge,#[qy,9,call_abs,_,T.z_abs,boot_abs,#[qb,5,pv 0,qd,_],_,_,_,_],#[qZ,8,op_pow,qk,qk],qz _],#[qe,3,#[qq,4,#[QO,4,#[qb,5,#[qy,9,call_abs,_,T.z_abs,boot_abs,#[qb,5,pv 0,qd,_],_,_,_,_],qd,_]]]],qw],#[qc,5,#[qC,2,(2),4,yZ.nd,rfl,Or.inl rfl,#[qZ,8,wm,#[qZ,8,op_mul,#[qZ,8,yR,#[qZ,8,yR,#[qZ,8,wm,pv 0,qk],#[qZ,8,op_mul,qk,pv 1]],qk],qk],qk],_,_],#[qc,5,#[qC,2,(3),4,yZ.nd,rfl,Or.inl rfl,qk,_,_],#[qc,5,#[jv,8,v6,rfl,#[jt,6,_,T.Xn,#[qb,5,qk,qd,_],_],#[qO,2,(4),1,yZ.nd,rfl,Or.inl rfl,_],#[qc,5,#[qC,2,(2),4,yZ.nd,rfl,Or.inl rfl,#[qZ,8,wm,#[qZ,8,yR,#[qZ,8,yR,#[qZ,8,op_mul,pv 2,pv 2],#[qZ,8,op_mul,qk,pv 4]],qk],qk],_,_],#[qe,3,#[qC,2,(3),4,yZ.nd,rfl,Or.inl rfl,#[qZ,8,yR,#[qZ,8,op_mul,pv 3,qk],pv 2],_,_]]],_],#[qe,3,#[qq,4,#[QO,4,#[qb,5,pv 3,qd,_]]]]]]]],?_⟩
 try dsimp only [cxOf,Cx.nox]
 refine⟨0,0,_,0,1,⟨by decide,by decide,by decide⟩,_,0,1,0,?_⟩
 refine ite2 (λ_=> ?_) (λ_=> ?_)
 ·refine⟨0,0,(sml rfl),λp O=> ?_⟩;refine k p _ O (qg O _) ⟨_,qf,?_⟩;split<;>omega
 ·refine⟨0,_,0,1,(by show(0:Int)<2147483647;decide),0,_,0,1,(.inl ⟨by decide,by decide⟩),_,0,1,_,0,1,_,0,1,(.inr ⟨by decide,by decide⟩),_,0,1,(by show(0:Int)<2147483647;decide),(9),1,by decide,by decide,?_⟩
  let J1_:Nat->L2.St->Hp->Prop:=λi σ H'=>∃(x b:Int) (kv:om V),σ= [some (.int c),some (.int t),some (.int x),some (.int b),kv]/\0<=x/\x<2147483647/\0<=b/\H'=H
  refine for_range (n:=9) J1_ ⟨_,_,none,1,Int.emod_nonneg _ (by decide),UA _ (by decide),by decide,1⟩ ?_ ?_
  ·rintro i σ H' hi ⟨x,b,kv,rfl,aa,ac,hb,rfl⟩;have U:CMul x x:= .inl ⟨by omega,by omega⟩
   refine⟨0,0,_,0,1,U,0,_,0,1,(.inl ⟨by decide,by decide⟩),_,0,1,_,0,1,_,0,1,(by show(0:Int)<2147483629;decide),0,_,0,1,(.inr ⟨by decide,by decide⟩),0,_,0,1,?_⟩
   have q0:0<=(x*x+40692*(0+(i:Int))+3)%2147483629:=Int.emod_nonneg _ (by decide)
   have q1:(x*x+40692*(0+(i:Int))+3)%2147483629<2147483629:=UA _ (by decide)
   exact⟨_,_,0,q0,Int.lt_trans q1 (by decide),Int.add_nonneg (Int.mul_nonneg hb (by decide)) q0,1⟩
  ·rintro σ H' ⟨x,b,kv,rfl,aa,ac,hb,rfl⟩;exact⟨0,(sml rfl),λp O=>k p _ O (qg O _) ⟨_,qf,hb⟩⟩
def Nm4 (zs:oj Str):Prop:=1<=zs.length/\zs.length<=8/\∀z∈zs,nm z=true/\z.length<=4
def Wd (n:Nat)(z:Str):Prop:=jj z=true/\z.length<=n
theorem Kept.of {p:o3}{H H':Hp}(s:Same H H'):Kept p H H':=λb o e _=>s b o e
theorem PotQ.ne_strs {H:Hp}{p l:o3}{zs:oj Str}(h:PotQ H p)(e:H l=some (.lst (zs.map V.str))):l≠p:=λz=>by
 obtain⟨x,e2,_⟩:=h;rw [<-z,e] at e2;cases zs with
 |nil=>cases e2
 |cons a r=>simp at e2
def sp_word:Sp:=λvs H Q _=>∃(p L:o3) (zs:oj Str),vs= [.ref p,.ref L]/\PotQ H p/\H L=some (.lst (zs.map V.str))/\Nm4 zs/\∀(z:Str) (H':Hp),Wd 4 z->PotQ H' p->Kept p H H'->Q (.str z) H'
def sp_line:Sp:=λvs H Q _=>∃(p L:o3) (zs:oj Str) (many k:Nat),vs= [.ref p,.ref L,.int (many:Int),.int (k:Int)]/\PotQ H p/\H L=some (.lst (zs.map V.str))/\Nm4 zs/\1<=many/\many<=12/\k<=12/\∀(z:Str) (H':Hp),Wd 20 z->PotQ H' p->Kept p H H'->Q (.str z) H'
def FIV:oj Str:= ["","x","b1 g","yes","c/d"]
theorem fiv_ok:∀z∈FIV,Wd 4 z:=by
 have:∀z∈FIV,jj z=true/\z.length<=4:=by decide+kernel
 exact this
theorem nm_all {z:Str}(h:nm z=true):jj z=true:=okN_all (nm_okN h)
theorem wd_of {zs:oj Str}(h:Nm4 zs):∀z∈zs++FIV,Wd 4 z:=λz O=>by
 rcases List.mem_append.mp O with h1|h1
 ·exact⟨nm_all (h.2.2 z h1).1,(h.2.2 z h1).2⟩
 ·exact fiv_ok z h1
theorem Wd.cat {n m k:Nat}{x y:Str}(h:Wd n x)(h':Wd m y)(e:n+m<=k):Wd k (x++y):=⟨okAll_app h.1 h'.1,by rw [app_len];have:=h.2;have:=h'.2;omega⟩
theorem join_ok:∀{l:oj Str},(∀z∈l,jj z=true)->Wd ((l.map (·.length)).sum+l.length) (Str.join " " l)
 | [],_=>⟨1,uW _⟩
 | [z],h=>⟨h z (by simp),by show z.length<=_;simp⟩
 |z::y::r,h=>by
  have O:=join_ok (l:=y::r) λx U=>h x (ub _ U);have hz:=h z (by simp)
  have e:=L2.jY z y r;refine⟨?_,?_⟩
  ·show(Str.join " " (z::y::r)).cps.toList.all Qs=true;rw [e,Uv,vi,show z.cps.toList.all Qs=true from hz,show(Str.join " " (y::r)).cps.toList.all Qs=true from O.1]
   decide
  ·rw [len_cps,e,uD,ui,<-len_cps,<-len_cps];have h1:=O.2;simp only [uq,Uh,ui] at h1⊢;omega
def WL:oj Str:= ["ask","ask","ask","has","names","text","text","copy","put","put","join","first","first","rest","size","cut","glue","like","none","rowed","go","say","fault","self"]
abbrev WTX:Str:="ask ask ask has names text text copy put put join first first rest size cut glue like none rowed"
theorem wl_spl:spl ((WTX++(" go say fault self":Str)).length+1) (WTX++(" go say fault self":Str))=WL:=by decide+kernel
theorem wl_ok:∀z∈WL,Wd 5 z:=by
 have:∀z∈WL,jj z=true/\z.length<=5:=by decide+kernel
 exact this
theorem abc_ok:∀c∈("abcdh":Str).cps.toList,Qs c=true:=by decide+kernel
theorem abc_at {d:Int}(U:0<=d)(h1:d<5):∃c,atI ("abcdh":Str).cps.toList d=some c/\Wd 1 ⟨#[c]⟩:=by
 obtain⟨c,O⟩:=j9 (xs:=("abcdh":Str).cps.toList) U (by show d<5;exact h1)
 refine⟨c,O,?_,ug _⟩;show [c].all Qs=true;rw [vi,abc_ok c (Xx O)]
 rfl
theorem num_ok:∀k:Nat,k<13->jj (toString (k:Int):Str)=true/\(toString (k:Int):Str).length<=2:=by decide+kernel
theorem ok_word (T:Tx K mg a):FnOk P w K mg base CX0 2 a.We a.Wc ["pot","names"] sp_word:=by
 have qS:=Xt (P:=P) (w:=w) (base:=base) T;refine T.g_law_word.F.ok Zk () (λ_ _ _ _ H _ Q E hr h=> ?_)
 obtain⟨p,L,zs,rfl,hP,hL,U,k⟩:=h;have hs:=uA;have ac:=U.1;have ad:=U.2.1;refine⟨_,#[qc,5,#[qC,2,(2),4,Zk.nd,rfl,Or.inl rfl,#[qZ,8,op_cat,pv 1,#[QO,4,#[qb,5,qm,#[qb,5,qm,#[qb,5,qm,#[qb,5,qm,#[qb,5,qm,qd,_],_],_],_],_]]],_,_],#[qe,3,#[qq,4,#[qL,7,Yz,pv 2,#[qx,16,qS,hr.mono (),_,T.g_law_take.m,T.g_law_take.F.kp,T.g_law_take.b,.nil,qB,#[qb,5,pv 0,#[qb,5,#[qy,9,qR,_,T.Yl,uJ,#[qb,5,pv 2,qd,_],_,_,_,_],qd,_],_],_,_,_],(λ_ _=>rfl)]]]],?_⟩
 try dsimp only [cxOf,Cx.nox]
 refine⟨0,(sml rfl),λq hq=> ?_⟩;have s1:Same H (upd H q (.lst [.str "",.str "x",.str "b1 g",.str "yes",.str "c/d"])):=qg hq _;refine⟨L,q,_,0,1,s1 _ _ hL,qf,(by rw [u9];show _+5<=sizeLine;omega),λl hl=> ?_⟩
 have s2:=s1.trans (qg hl (.lst (zs.map V.str++ [.str "",.str "x",.str "b1 g",.str "yes",.str "c/d"])));have O:(upd (upd H q (.lst [.str "",.str "x",.str "b1 g",.str "yes",.str "c/d"])) l (.lst (zs.map V.str++ [.str "",.str "x",.str "b1 g",.str "yes",.str "c/d"]))) l=some (.lst ((zs++FIV).map V.str)):=by rw [qf,uu];rfl
 generalize upd (upd H q (.lst [.str "",.str "x",.str "b1 g",.str "yes",.str "c/d"])) l (.lst (zs.map V.str++ [.str "",.str "x",.str "b1 g",.str "yes",.str "c/d"]))=H2 at s2 O⊢;have P2:=hP.same s2;have l5:((zs++FIV).map V.str).length=zs.length+5:=by rw [u9,uD];rfl
 refine⟨0,0,0,l,0,.inl (SqL.of O),p,0,P2,by rw [l5];omega,by rw [l5];omega,λd H' d0 d1 P3 K3=> ?_⟩
 have aa:=K3 _ _ O (P2.ne_strs O);obtain⟨v,hv⟩:=j9 (xs:=(zs++FIV).map V.str) d0 d1;obtain⟨z,hz,rfl⟩:=List.mem_map.mp (Xx hv);exact⟨l,_,d,0,1,SqL.of aa,hv,k z H' (wd_of U z hz) P3 ((Kept.of s2).trans K3)⟩
theorem sums {c:Nat}:∀{l:oj Str},(∀z∈l,z.length<=c)->(l.map (·.length)).sum<=l.length*c
 | [],_=>by simp
 |z::r,h=>by
  have:=sums λy O=>h y (ub _ O);have:=h z ud;simp only [uq,Uh,ui,Nat.add_mul,Nat.one_mul];omega
theorem joins {K:o0}{H:Hp}{z:Str}{l:oj Str}{Q:VK}(hl:l.length<=3)(O:Wd 5 z)(h:∀z∈l,Wd 2 z)(k:∀y H',Wd 20 y->Same H H'->Q (.str y) H'):((z::l).map V.str).length<=sizeLine/\∀p,H p=none->rJoin K (.str " ") [.ref p] (upd H p (.lst ((z::l).map V.str))) Q:=by
 have hs:=uA;have h1:=sums (c:=2) λz O=>(h z O).2;have h2:=O.2;refine⟨by rw [u9,ui];omega,λp hp=>⟨" ",p,z::l,1,1,SqL.of qf,?_,?_⟩⟩
 ·have e:(" ":Str).length=1:=rfl;rw [e];simp only [uq,Uh,ui];omega
 ·have:=join_ok (l:=z::l) λy U=>by
   rcases List.mem_cons.mp U with rfl|U
   ·exact O.1
   ·exact(h y U).1
  refine k _ _ ⟨this.1,?_⟩ (qg hp _);have h3:=this.2;simp only [uq,Uh,ui] at h3;omega
theorem ok_line (T:Tx K mg a):FnOk P w K mg base CX0 3 a.wL a.wC ["pot","names","many","k"] sp_line:=by
 have qS:=Xt (P:=P) (w:=w) (base:=base) T;have QL:=ok_word (P:=P) (w:=w) (base:=base) T;refine T.g_law_line.F.ok Q6 () (λ_ _ _ s H _ Q E hr h=> ?_)
 obtain⟨p,L,zs,many,i,rfl,hP,hL,hN,aA,aB,hi,k⟩:=h;refine⟨_,#[qc,5,#[qC,2,(4),4,Q6.nd,rfl,Or.inl rfl,qm,_,_],#[qc,5,#[qC,2,(5),4,Q6.nd,rfl,Or.inl rfl,#[qL,7,Yz,#[jU,12,uO,U3,U4,mt_split,#[qZ,8,Qj,pv 4,qm],#[qb,5,qm,qd,_],_,_,_,_,_],#[qx,16,qS,hr.mono (),_,T.g_law_take.m,T.g_law_take.F.kp,T.g_law_take.b,.nil,qB,#[qb,5,pv 0,#[qb,5,qk,qd,_],_],_,_,_],(λ_ _=>rfl)],_,_],#[qc,5,#[ps_asg,6,#[JX,2,["j","pot"],(1),[0],9,lcsN (qi Jd) ["pot","names","many","k","words","word","one","two","three","at"],rfl,#[jt,6,_,T.Xn,#[qb,5,qk,qd,_],_],(λ_ _ _ _ _ _=>#[qO,2,(0),1,(show List.Nodup (["j","pot"]:oj Str) by decide+kernel),rfl,Or.inl rfl,_]),(λ_ _ _ _ _ _=> @Q5 _),(λ_ _ _ _ _ _=>#[qL,7,ix_str,qm,#[qx,16,qS,hr.mono (),_,T.g_law_take.m,T.g_law_take.F.kp,T.g_law_take.b,.nil,qB,#[qb,5,pv 1,#[qb,5,qk,qd,_],_],_,_,_],(λ_ _=>rfl)]),_],#[pg_lstU,6,rfl,yY #[qO,2,(6),1,Q6.nd,rfl,Or.inl rfl,_] (yY #[qO,2,(7),1,Q6.nd,rfl,Or.inl rfl,_] (yY #[qO,2,(8),1,Q6.nd,rfl,Or.inl rfl,_] WK)),_,_],_,_,_],#[qc,5,#[qC,2,(9),4,Q6.nd,rfl,Or.inl rfl,#[qY,9,jC,_,T.zh,Uy,#[qb,5,#[qy,9,#[call_min2,1,rfl],_,T.z_min,boot_min,#[qb,5,pv 2,#[qb,5,#[qZ,8,yR,#[qZ,8,yR,pv 3,qk],#[qx,16,qS,hr.mono (),_,T.g_law_take.m,T.g_law_take.F.kp,T.g_law_take.b,.nil,qB,#[qb,5,pv 0,#[qb,5,pv 2,qd,_],_],_,_,_]],qd,_],_],_,_,_,_],qd,_],_,_,_,_],_,_],#[qc,5,#[qI,8,#[qr,8,QM,pv 5,qm,qz _],#[qe,3,#[qq,4,#[qZ,8,Qj,#[qZ,8,Qj,#[qZ,8,Qj,qm,pv 6],qm],#[qx,16,QL,hr.mono (),_,T.g_law_word.m,T.g_law_word.F.kp,T.g_law_word.b,.nil,qB,#[qb,5,pv 0,#[qb,5,pv 1,qd,_],_],_,_,_]]]],qw],#[qc,5,#[qI,8,#[qr,8,QR,pv 5,#[QO,4,#[qb,5,qm,#[qb,5,qm,qd,_],_]],(by with_unfolding_all rfl)],#[qe,3,#[qq,4,#[qZ,8,Qj,#[qZ,8,Qj,pv 5,qm],pv 6]]],qw],#[qc,5,#[qI,8,#[qr,8,QM,pv 5,qm,qz _],#[qe,3,#[qq,4,pv 5]],qw],#[qc,5,#[qI,8,#[qr,8,QM,pv 5,qm,qz _],#[qe,3,#[qq,4,#[qZ,8,Qj,qm,pv 9]]],qw],#[qc,5,#[qI,8,#[qr,8,QR,pv 5,#[QO,4,#[qb,5,qm,#[qb,5,qm,qd,_],_]],(by with_unfolding_all rfl)],#[qe,3,#[qq,4,#[jU,12,uO,vN,vO,WY,qm,#[qb,5,#[QO,4,#[qb,5,pv 5,#[qb,5,pv 6,#[qb,5,pv 9,qd,_],_],_]],qd,_],_,_,_,_,_]]],qw],#[qc,5,#[qI,8,#[qr,8,QM,pv 5,qm,qz _],#[qe,3,#[qq,4,#[jU,12,uO,vN,vO,WY,qm,#[qb,5,#[QO,4,#[qb,5,pv 5,#[qb,5,pv 6,#[qb,5,pv 7,#[qb,5,pv 9,qd,_],_],_],_]],qd,_],_,_,_,_,_]]],qw],#[qc,5,#[qI,8,#[qr,8,QR,pv 5,#[QO,4,#[qb,5,qm,#[qb,5,qm,qd,_],_]],(by with_unfolding_all rfl)],#[qe,3,#[qq,4,#[jU,12,uO,vN,vO,WY,qm,#[qb,5,#[QO,4,#[qb,5,pv 5,#[qb,5,pv 6,#[qb,5,pv 7,#[qb,5,pv 8,qd,_],_],_],_]],qd,_],_,_,_,_,_]]],qw],#[qe,3,#[qq,4,#[jU,12,uO,vN,vO,WY,qm,#[qb,5,#[QO,4,#[qb,5,pv 5,#[qb,5,pv 6,#[qb,5,pv 7,qd,_],_],_]],qd,_],_,_,_,_,_]]]]]]]]]]]]]],?_⟩
 try dsimp only [cxOf,Cx.nox]
 refine⟨0,_,0,1,(by decide+kernel),1,0,1,(by decide+kernel),λq hq=> ?_⟩
 rw [show spl _ _=WL from wl_spl]
 have s1:Same H (upd H q (.lst (WL.map V.str))):=qg hq _;have eq:(upd H q (.lst (WL.map V.str))) q=some (.lst (WL.map V.str)):=qf;generalize upd H q (.lst (WL.map V.str))=H1 at s1 eq⊢;have P1:=hP.same s1;refine⟨0,p,(24),1,P1,by decide,by decide,λd H2 d0 d1 P2 K2=> ?_⟩
 obtain⟨v,hv⟩:=j9 (xs:=WL.map V.str) d0 (by show d<24;exact d1)
 obtain⟨z,hz,rfl⟩:=List.mem_map.mp (Xx hv);refine⟨q,_,d,0,1,SqL.of (K2 _ _ eq (P1.ne_strs eq)),hv,?_⟩;have aa:=wl_ok z hz;have ak:Kept p H H2:=(Kept.of s1).trans K2;clear K2 hv hz eq P1 s1 hq;refine⟨(3),1,by decide,by decide,λD hD=> ?_⟩
 refine zr (lo:=0) (tl:= [some (.ref p)]) (λi ys H'=>∃bs:oj Str,ys=bs.map V.str/\bs.length=i/\(∀b∈bs,Wd 1 b)/\PotQ H' p/\(∀b o,H2 b=some o->b≠p->H' b=some o)) (yq (by decide)) ⟨[],1,1,λb hb=>by simp at hb,P2.same (qg hD _),λb o e _=>qg hD _ _ _ e⟩ ?_ ?_
 ·rintro j ys H' hj ⟨bs,rfl,ac,U,P',K'⟩ ad O R hR;refine⟨0,p,(5),1,P',by decide,by decide,λd3 H4 e0 e1 P4 K4=> ?_⟩
  obtain⟨c,hc,ao⟩:=abc_at e0 e1;refine⟨"abcdh",d3,c,1,1,(by decide+kernel),hc,?_⟩
  have nD:D≠p:=(P2.free hD).symm;refine hR _ H4 (K4 _ _ ad nD) ⟨bs++ [⟨#[c]⟩],by rw [uu];rfl,by rw [uD,ac];rfl,λb hb=> ?_,?_,λb o e np=> ?_⟩
  ·rcases List.mem_append.mp hb with h|h
   ·exact U b h
   ·rw [Ua] at h;subst h;exact ao
  ·obtain⟨x,e2,h2⟩:=P4;exact⟨x,by rw [qh nD.symm];exact e2,h2⟩
  ·rw [qh (qj e hD)];exact K4 _ _ (K' b o e np) np
 ·rintro ys H' ⟨bs,rfl,ac,U,P',K'⟩ ad;obtain⟨x1,x2,x3,rfl⟩:∃x1 x2 x3,bs= [x1,x2,x3]:=by
   match bs,ac with
   | [x1,x2,x3],_=>exact⟨x1,x2,x3,1⟩
  have h1:Wd 2 x1:=⟨(U x1 (by simp)).1,by have:=(U x1 (by simp)).2;omega⟩
  have h2:Wd 2 x2:=⟨(U x2 (by simp)).1,by have:=(U x2 (by simp)).2;omega⟩
  have h3:Wd 2 x3:=⟨(U x3 (by simp)).1,by have:=(U x3 (by simp)).2;omega⟩
  have KD:Kept p H H':=λb o e np=>K' b o (ak b o e np) np;refine⟨D,0,SqL.of ad,1,_,0,_,0,_,0,1,?_⟩;clear K' ak P2 U ac ad;refine⟨0,0,_,0,1,0,0,p,many,1,P',by omega,by omega,λd5 H5 f0 f1 P5 K5=>⟨_,0,1,_,0,?_⟩⟩
  obtain⟨j,ej,ap,aq⟩:∃j:Int,j=(if(i:Int)+5+d5<(many:Int) then(i:Int)+5+d5 else(many:Int))/\1<=j/\j<=12:=⟨0,by split<;>omega,by split<;>omega⟩
  rw [<-ej];obtain⟨jn,rfl⟩:∃n:Nat,j=(n:Int):=⟨j.toNat,by omega⟩
  have al:=num_ok jn (by omega)
  have h4:Wd 2 (toString ((jn:Nat):Int):Str):=al;have af:((jn:Nat):Int).natAbs.log2<1920:=by have:=Nat.log2_le_self ((jn:Nat):Int).natAbs;omega
  refine⟨0,af,?_⟩;have ag:Kept p H H5:=KD.trans K5;have au:=ag _ _ hL (hP.ne_strs hL);have fin:∀(y:Str) (H':Hp),Wd 20 y->Same H5 H'->Q (.str y) H':=λy H' O s'=>k y H' O (P5.same s') (ag.trans (Kept.of s'));have two:(2:Nat)<=sizeLine:=by decide
  have bl:Wd 1 " ":=⟨by decide+kernel,ug _⟩
  have fz:∀{n m:Nat}{x y:Str},Wd n x->Wd m y->n+m<=100->x.length+y.length<=sizeLine:=λhx O h=>fits (by have:=hx.2;have:=O.2;omega)
  have tx:Wd 5 "text ":=⟨by decide+kernel,ug _⟩
  have go:Wd 3 "go ":=⟨by decide+kernel,ug _⟩
  clear al ap aq af ej;refine⟨0,1,0,ite2 (λ_=> ?_) (λ_=> ?_)⟩
  ·have w1:=tx.cat h1 (k:=7) (by omega)
   have w2:=w1.cat bl (k:=8) (by omega)
   refine⟨0,_,0,1,fz tx h1 (by omega),_,0,1,fz w1 bl (by omega),0,0,p,L,zs,1,P5,au,hN,λy H6 O P6 K6=> ?_⟩
   exact⟨_,0,1,fz w2 O (by omega),k _ H6 (w2.cat O (by omega)) P6 (ag.trans K6)⟩
  refine⟨0,two,λl1 aw=>⟨l1,0,.inl (SqL.of qf),1,1,0,?_⟩⟩;have ae:=qg aw (.lst ([.str "self",.str "say"]:oj V));refine ite2 (λ_=> ?_) (λ_=> ?_)
  ·have w1:=aa.cat bl (k:=6) (by omega)
   exact⟨0,_,0,1,fz aa bl (by omega),0,_,0,1,fz w1 h1 (by omega),fin _ _ (w1.cat h1 (by omega)) ae⟩
  refine⟨0,1,0,ite2 (λ_=> ?_) (λ_=> ?_)⟩
  ·exact⟨0,fin _ _ ⟨aa.1,by have:=aa.2;omega⟩ ae⟩
  refine⟨0,1,0,ite2 (λ_=> ?_) (λ_=> ?_)⟩
  ·exact⟨0,_,0,1,fz go h4 (by omega),fin _ _ (go.cat h4 (by omega)) ae⟩
  refine⟨0,two,λl2 ax=>⟨l2,0,.inl (SqL.of qf),1,1,0,?_⟩⟩;have ah:=ae.trans (qg ax (.lst ([.str "none",.str "rowed"]:oj V)));refine ite2 (λ_=> ?_) (λ_=> ?_)
  ·refine⟨1,0,0,0,?_⟩;exact joins (l:= [x1,toString ((jn:Nat):Int)]) (by simp) aa (λy O=>by simp at O;rcases O with rfl|rfl<;>assumption) λy H' O s'=>fin y H' O (ah.trans s')
  refine⟨0,1,0,ite2 (λ_=> ?_) (λ_=> ?_)⟩
  ·refine⟨1,0,0,0,0,?_⟩;exact joins (l:= [x1,x2,toString ((jn:Nat):Int)]) (by simp) aa (λy O=>by simp at O;rcases O with rfl|rfl|rfl<;>assumption) λy H' O s'=>fin y H' O (ah.trans s')
  refine⟨0,two,λl3 ay=>⟨l3,0,.inl (SqL.of qf),1,1,0,?_⟩⟩;have am:=ah.trans (qg ay (.lst ([.str "cut",.str "glue"]:oj V)));refine ite2 (λ_=> ?_) (λ_=> ?_)
  ·refine⟨1,0,0,0,0,?_⟩;exact joins (l:= [x1,x2,x3]) (by simp) aa (λy O=>by simp at O;rcases O with rfl|rfl|rfl<;>assumption) λy H' O s'=>fin y H' O (am.trans s')
  ·refine⟨1,0,0,0,?_⟩;exact joins (l:= [x1,x2]) (by simp) aa (λy O=>by simp at O;rcases O with rfl|rfl<;>assumption) λy H' O s'=>fin y H' O (am.trans s')
def TrOk (d:D):Prop:=isT d=true/\lw d=true/\sz d<=300
def sp_tre:Sp:=λvs H Q _=>∃(p L:o3) (zs:oj Str),vs= [.ref p,.ref L]/\PotQ H p/\H L=some (.lst (zs.map V.str))/\Nm4 zs/\∀(v:V) (d:D) (H':Hp),TrOk d->Is H' d v->PotQ H' p->Kept p H H'->Q v H'
theorem IsL.ofStrz {H:Hp}:∀{l:oj Str},(∀z∈l,z.length<=1000)->L2.IsL H (l.map D.str) (l.map V.str)
 | [],_=>rfl
 |z::r,h=>⟨_,0,⟨1,yq (h z ud)⟩,IsL.ofStrz λy O=>h y (ub _ O)⟩
theorem szL_strs {n:Nat}:∀{l:oj Str},(∀z∈l,z.length<=n)->szL (l.map D.str)<=l.length*(n+1)
 | [],_=>by simp [szL]
 |z::r,h=>by
  have:=szL_strs (n:=n) λy O=>h y (ub (a:=y) z O);have:=h z ud;simp only [uq,szL,sz,ui,Nat.add_mul,Nat.one_mul];omega
theorem lw_strs:∀{l:oj Str},(∀z∈l,jj z=true)->lwL (l.map D.str)=true
 | [],_=>rfl
 |z::r,h=>by
  rw [uq,lwL,lw_strs λy O=>h y (ub _ O),vL];exact h z ud
theorem dp_strs:∀l:oj Str,dpL (l.map D.str)<=1
 | []=>by simp [dpL]
 |z::r=>by have:=dp_strs r;simp only [uq,dpL,dp];omega
theorem good_strs:∀{l:oj Str},(∀z∈l,Wd 300 z)->goodL (l.map D.str)=true
 | [],_=>rfl
 |z::r,h=>by
  rw [uq,goodL,good_strs λy O=>h y (ub _ O),vL];show Qq z=true;unfold Qq;have:=h z ud;rw [uc this.2];exact this.1
theorem tr_str {z:Str}(h:Wd 20 z):TrOk (.str z):=⟨isT_short h.1 (by have:=h.2;omega),h.1,by simp only [sz];have:=h.2;omega⟩
theorem tr_row {l:oj Str}(hl:l.length<=14)(h:∀z∈l,Wd 20 z):TrOk (.tup (l.map D.str)):=by
 have h1:=szL_strs λz O=>(h z O).2;have h2:=dp_strs l;have U:=good_strs λz O=>(⟨(h z O).1,by have:=(h z O).2;omega⟩:Wd 300 z)
 have e:sz (.tup (l.map D.str))<=300:=by simp only [sz];omega
 refine⟨?_,by simpa only [lw] using lw_strs λz O=>(h z O).1,e⟩
 have e2:dp (.tup (l.map D.str))<=12:=by simp only [dp];omega
 unfold isT;rw [uc (show sz (.tup (l.map D.str))<=600 by omega),uc e2]
 simp only [good];rw [U,u9,uc (show l.length<=40 by omega)]
 rfl
theorem Wi {H:Hp}{l:oj Str}{t:o3}(h:∀z∈l,Wd 20 z)(O:H t=none):Is (upd H t (.tup (l.map V.str))) (.tup (l.map D.str)) (.ref t):=
 Is.new (IsL.ofStrz λz U=>by have:=(h z U).2;omega) O
def MKL (z:Str):oj Str:= ["row h","text b "++z,"ask c b","text a text d ","join a c","put h a","text a ask e d","put h a","text a say e","put h a","say h"]
theorem mkl_ok {z:Str}(h:Wd 4 z):∀y∈MKL z,Wd 20 y:=by
 have O:∀y∈(["row h","ask c b","text a text d ","join a c","put h a","text a ask e d","put h a","text a say e","put h a","say h"]:oj Str),jj y=true/\y.length<=20:=by decide+kernel
 intro y U;rcases List.mem_cons.mp U with rfl|U
 ·exact O _ (by simp)
 ·rcases List.mem_cons.mp U with rfl|U
  ·exact Wd.cat (n:=7) (m:=4) ⟨by decide+kernel,ug _⟩ h (by omega)
  ·exact O y (ub _ U)
theorem ok_maker (T:Tx K mg a):FnOk P w K mg base CX0 2 a.ZU a.ZQ ["pot","names"] sp_tre:=by
 have qS:=Xt (P:=P) (w:=w) (base:=base) T;refine T.g_law_maker.F.ok Yu () (λ_ _ _ _ H _ Q E hr h=> ?_)
 obtain⟨p,L,zs,rfl,hP,hL,hN,k⟩:=h;have ac:=hN.1;have ad:=hN.2.1;refine⟨_,#[qc,5,#[qC,2,(2),4,Yu.nd,rfl,Or.inl rfl,#[qL,7,Yz,pv 1,#[qx,16,qS,hr.mono (),_,T.g_law_take.m,T.g_law_take.F.kp,T.g_law_take.b,.nil,qB,#[qb,5,pv 0,#[qb,5,#[qy,9,qR,_,T.Yl,uJ,#[qb,5,pv 1,qd,_],_,_,_,_],qd,_],_],_,_,_],(λ_ _=>rfl)],_,_],#[qc,5,#[qC,2,(3),4,Yu.nd,rfl,Or.inl rfl,#[QO,4,#[qb,5,qm,#[qb,5,#[qZ,8,Qj,qm,pv 2],#[qb,5,qm,#[qb,5,qm,#[qb,5,qm,#[qb,5,qm,qd,_],_],_],_],_],_]],_,_],#[qc,5,#[qC,2,(3),4,Yu.nd,rfl,Or.inl rfl,#[qZ,8,op_cat,pv 3,#[QO,4,#[qb,5,qm,#[qb,5,qm,#[qb,5,qm,#[qb,5,qm,#[qb,5,qm,qd,_],_],_],_],_]]],_,_],#[qe,3,#[qq,4,#[qY,9,qT,_,T.Qz,vf,#[qb,5,pv 3,qd,_],_,_,_,_]]]]]],?_⟩
 try dsimp only [cxOf,Cx.nox]
 have aa:=hP.ne_strs hL;refine⟨0,0,0,L,0,.inl (SqL.of hL),p,0,hP,by rw [u9];omega,by rw [u9];omega,λd1 H1 a0 a1 P1 K1=> ?_⟩
 obtain⟨v,hv⟩:=j9 (xs:=zs.map V.str) a0 a1;obtain⟨z,hz,rfl⟩:=List.mem_map.mp (Xx hv);have O:Wd 4 z:=⟨nm_all (hN.2.2 z hz).1,(hN.2.2 z hz).2⟩;refine⟨L,_,_,0,1,SqL.of (K1 _ _ hL aa),hv,?_⟩;have e7:("text b ":Str).length=7:=by decide+kernel
 refine⟨0,_,0,1,fits (by have:=O.2;omega),(sml rfl),λU h1=> ?_⟩
 have q1:=qg h1 (.lst (((MKL z).take 6).map V.str));have e1:(upd H1 U (.lst (((MKL z).take 6).map V.str))) U=some (.lst (((MKL z).take 6).map V.str)):=qf;show tSeq _ _ _ _ (upd H1 U (.lst (((MKL z).take 6).map V.str)));generalize upd H1 U (.lst (((MKL z).take 6).map V.str))=H2 at q1 e1⊢;refine⟨0,(sml rfl),λl2 h2=> ?_⟩;have q2:=qg h2 (.lst (((MKL z).drop 6).map V.str));refine⟨U,l2,_,0,1,q2 _ _ e1,qf,fits (by show 6+5<=16000000;decide),λl3 h3=> ?_⟩
 have q3:=q2.trans (qg h3 (.lst ((MKL z).map V.str)));refine⟨0,l3,(MKL z).map V.str,1,.inl ⟨SqL.of qf,λt ht=> ?_⟩⟩;have q4:=qg ht (.tup ((MKL z).map V.str));exact k _ _ _ (tr_row (by show 11<=14;decide) (mkl_ok O)) (Wi (mkl_ok O) ht) ((P1.same q1).same (q3.trans q4)) (K1.trans (Kept.of (q1.trans (q3.trans q4))))
theorem ok_rule (T:Tx K mg a):FnOk P w K mg base CX0 4 a.wq a.wf ["pot","names"] sp_tre:=by
 have qS:=Xt (P:=P) (w:=w) (base:=base) T;have QL:=ok_word (P:=P) (w:=w) (base:=base) T;have O:=ok_line (P:=P) (w:=w) (base:=base) T;refine T.g_law_rule.F.ok Y2 () (λ_ _ _ _ H _ Q E hr h=> ?_)
 obtain⟨p,L,zs,rfl,hP,hL,hN,k⟩:=h;refine⟨_,#[qc,5,#[qC,2,(2),4,Y2.nd,rfl,Or.inl rfl,#[qZ,8,yR,qk,#[qx,16,qS,hr.mono (),_,T.g_law_take.m,T.g_law_take.F.kp,T.g_law_take.b,.nil,qB,#[qb,5,pv 0,#[qb,5,qk,qd,_],_],_,_,_]],_,_],#[qc,5,#[qC,2,(3),4,Y2.nd,rfl,Or.inr rfl,#[qZ,8,yR,pv 2,qk],_,_],#[qc,5,#[qC,2,(4),4,Y2.nd,rfl,Or.inl rfl,#[QO,4,#[qb,5,#[qZ,8,Qj,qm,#[qx,16,QL,hr.mono (),_,T.g_law_word.m,T.g_law_word.F.kp,T.g_law_word.b,.nil,qB,#[qb,5,pv 0,#[qb,5,pv 1,qd,_],_],_,_,_]],#[qb,5,#[qZ,8,Qj,qm,#[qx,16,QL,hr.mono (),_,T.g_law_word.m,T.g_law_word.F.kp,T.g_law_word.b,.nil,qB,#[qb,5,pv 0,#[qb,5,pv 1,qd,_],_],_,_,_]],#[qb,5,qm,qd,_],_],_]],_,_],#[qc,5,#[qU,4,#[jU,12,uY,PySem.F.slot_list_extend,PySem.F.type_list_extend,mt_extend,pv 4,#[qb,5,#[JX,2,["k","pot","names","many"],(1),[0,1,3],9,lcsN (qi Jb) ["pot","names","body","many","lines"],rfl,#[jt,6,_,T.Xn,#[qb,5,pv 2,qd,_],_],(λ_ _ _ _ _ _=>#[qO,2,(0),1,(show List.Nodup (["k","pot","names","many"]:oj Str) by decide+kernel),rfl,Or.inl rfl,_]),(λ_ _ _ _ _ _=> @Q5 _),(λ_ _ _ _ _ _=>#[qx,16,O,hr.mono (),_,T.g_law_line.m,T.g_law_line.F.kp,T.g_law_line.b,.nil,qB,#[qb,5,pv 1,#[qb,5,pv 2,#[qb,5,pv 3,#[qb,5,pv 0,qd,_],_],_],_],_,_,_]),_],qd,_],_,_,_,_,_],_],#[qe,3,#[qq,4,#[qY,9,qT,_,T.Qz,vf,#[qb,5,#[qZ,8,op_cat,pv 4,#[QO,4,#[qb,5,#[qZ,8,Qj,qm,#[qL,7,ix_str,qm,#[qx,16,qS,hr.mono (),_,T.g_law_take.m,T.g_law_take.F.kp,T.g_law_take.b,.nil,qB,#[qb,5,pv 0,#[qb,5,qk,qd,_],_],_,_,_],(λ_ _=>rfl)]],qd,_]]],qd,_],_,_,_,_]]]]]]],?_⟩
 try dsimp only [cxOf,Cx.nox]
 refine⟨0,p,(8),1,hP,by decide,by decide,λd1 H1 a0 a1 P1 K1=>⟨_,0,1,?_⟩⟩
 obtain⟨nb,ak,aH,aI⟩:∃nb:Nat,1+d1=(nb:Int)/\1<=nb/\nb<=8:=⟨(1+d1).toNat,by omega,by omega,by omega⟩
 have ac:=K1 _ _ hL (hP.ne_strs hL);dsimp only;rw [ak];clear ak a0 a1;refine⟨0,_,0,1,?_⟩;have ta:Wd 7 "text a ":=⟨by decide+kernel,ug _⟩
 have tb:Wd 7 "text b ":=⟨by decide+kernel,ug _⟩
 have fz:∀{n m:Nat}{x y:Str},Wd n x->Wd m y->n+m<=100->x.length+y.length<=sizeLine:=λhx U h=>fits (by have:=hx.2;have:=U.2;omega)
 refine⟨0,0,p,L,zs,1,P1,ac,hN,λz1 H5 al P5 K5=>⟨_,0,1,fz ta al (by omega),?_⟩⟩
 have ad:=K5 _ _ ac (P1.ne_strs ac);refine⟨0,0,p,L,zs,1,P5,ad,hN,λz2 H6 am P6 K6=>⟨_,0,1,fz tb am (by omega),(sml rfl),λl hl=> ?_⟩⟩
 have aw:=K6 _ _ ad (P5.ne_strs ad);have ao:Kept p H H6:=(K1.trans K5).trans K6;have s7:=qg hl (.lst (["text a "++z1,"text b "++z2,"row h"].map V.str));have e7:(upd H6 l (.lst (["text a "++z1,"text b "++z2,"row h"].map V.str))) l=some (.lst (["text a "++z1,"text b "++z2,"row h"].map V.str)):=qf;have P7:=P6.same s7;have ae:=s7 _ _ aw;have K7:Kept p H (upd H6 l (.lst (["text a "++z1,"text b "++z2,"row h"].map V.str))):=ao.trans (Kept.of s7);have aa:∀y∈(["text a "++z1,"text b "++z2,"row h"]:oj Str),Wd 20 y:=λy U=>by
  simp only [uB,uC,uM] at U;rcases U with rfl|rfl|rfl
  ·exact ta.cat al (by omega)
  ·exact tb.cat am (by omega)
  ·exact⟨by decide+kernel,by decide⟩
 show tSeq _ _ _ _ (upd H6 l (.lst (["text a "++z1,"text b "++z2,"row h"].map V.str)));generalize upd H6 l (.lst (["text a "++z1,"text b "++z2,"row h"].map V.str))=H7 at e7 P7 ae K7⊢;have ax:(["text a "++z1,"text b "++z2,"row h"]:oj Str).length=3:=rfl;generalize (["text a "++z1,"text b "++z2,"row h"]:oj Str)=th at e7 aa ax⊢;refine⟨0,.inl ⟨1,_,SqL.of e7⟩,?_⟩;refine⟨0,nb,1,by omega,by omega,λD hD=> ?_⟩
 have nD:D≠p:=(P7.free hD).symm;have nl:l≠p:=P7.ne_strs e7;refine zr (lo:=0) (n:=nb) (tl:= [some (.ref p),some (.ref L),some (.int ((nb:Int)+4))]) (λi ys H'=>∃rs:oj Str,ys=rs.map V.str/\rs.length=i/\(∀r∈rs,Wd 20 r)/\PotQ H' p/\(∀b o,H7 b=some o->b≠p->H' b=some o)) (yq (by omega)) ⟨[],1,1,λb hb=>by simp at hb,P7.same (qg hD _),λb o e _=>qg hD _ _ _ e⟩ ?_ ?_
 ·rintro j ys H' hj ⟨rs,rfl,ap,af,P',K'⟩ ag U R hR;have ay:=K' _ _ ae (P7.ne_strs ae);refine⟨0,0,0,0,p,L,zs,nb+4,j,?_,P',ay,hN,by omega,by omega,by omega,λr H8 aA P8 K8=> ?_⟩
  ·rw [show(0:Int)+(j:Int)=(j:Int) by omega,show((nb+4:Nat):Int)=(nb:Int)+4 by omega]
   rfl
  ·refine hR _ H8 (K8 _ _ ag nD) ⟨rs++ [r],by rw [uu];rfl,by rw [uD,ap];rfl,λb hb=> ?_,?_,λb o e np=> ?_⟩
   ·rcases List.mem_append.mp hb with h|h
    ·exact af b h
    ·rw [Ua] at h;subst h;exact aA
   ·obtain⟨x,e2,h2⟩:=P8;exact⟨x,by rw [qh nD.symm];exact e2,h2⟩
   ·rw [qh (qj e hD)];exact K8 _ _ (K' b o e np) np
 ·rintro ys H' ⟨rs,rfl,ap,af,P',K'⟩ ag;have e8:=K' _ _ e7 nl;refine⟨l,D,_,0,1,e8,ag,fits (by rw [u9,u9];omega),?_⟩
  have e9:(upd H' l (.lst (th.map V.str++rs.map V.str))) l=some (.lst ((th++rs).map V.str)):=by rw [qf,uu]
  have P9:PotQ (upd H' l (.lst (th.map V.str++rs.map V.str))) p:=by
   obtain⟨x,e2,h2⟩:=P';exact⟨x,by rw [qh nl.symm];exact e2,h2⟩
  have K9:Kept p H (upd H' l (.lst (th.map V.str++rs.map V.str))):=λb o e np=>by
   rw [qh (qj (ao b o e np) hl)];exact K' b o (K7 b o e np) np
  generalize upd H' l (.lst (th.map V.str++rs.map V.str))=H9 at e9 P9 K9⊢;refine⟨0,0,p,(5),1,P9,by decide,by decide,λd9 aJ g0 g1 aB aq=> ?_⟩
  obtain⟨c9,hc,aC⟩:=abc_at g0 g1;have aD:=aq _ _ e9 nl;refine⟨"abcdh",d9,c9,1,1,(by decide+kernel),hc,_,0,1,(by show("say ":Str).length+1<=sizeLine;decide+kernel),(sml rfl),λq1 aE=> ?_⟩
  have au:=qg aE (.lst [.str ("say "++⟨#[c9]⟩)]);have hw:Wd 20 ("say "++⟨#[c9]⟩:Str):=Wd.cat (n:=4) (m:=1) ⟨by decide+kernel,ug _⟩ aC (by omega)
  refine⟨l,q1,_,0,1,au _ _ aD,qf,fits (by rw [u9,uD];show _+1<=_;omega),λq2 aF=> ?_⟩
  have aG:=au.trans (qg aF (.lst ((th++rs).map V.str++ [.str ("say "++⟨#[c9]⟩)])));refine⟨q2,0,.inl ⟨SqL.of qf,λt ht=> ?_⟩⟩;have ah:=aG.trans (qg ht (.tup ((th++rs).map V.str++ [.str ("say "++⟨#[c9]⟩)])));have all:∀y∈th++rs++ [("say "++⟨#[c9]⟩:Str)],Wd 20 y:=λy U=>by
   rcases List.mem_append.mp U with U|U
   ·rcases List.mem_append.mp U with U|U
    ·exact aa y U
    ·exact af y U
   ·cases List.mem_singleton.mp U;exact hw
  have em:(th++rs).map V.str++ [.str ("say "++⟨#[c9]⟩)]=(th++rs++ [("say "++⟨#[c9]⟩:Str)]).map V.str:=by rw [uu (l₁:=th++rs)];rfl
  rw [em] at ah ht⊢;refine k _ _ _ (tr_row (l:=th++rs++ [("say "++⟨#[c9]⟩:Str)]) (by simp only [uD,vK];omega) all) (Wi all ht) (aB.same ah) ((K9.trans aq).trans (Kept.of ah))
theorem tr_three {z y:Str}(O:Wd 20 z)(U:Wd 20 y):TrOk (.tup [.tup [.str z,.tup []],.str y]):=by
 have h1:=O.2;have h2:=U.2;have g1:Qq z=true:=by unfold Qq;rw [uc (show z.length<=300 by omega)];exact O.1
 have g2:Qq y=true:=by unfold Qq;rw [uc (show y.length<=300 by omega)];exact U.1
 have e:sz (.tup [.tup [.str z,.tup []],.str y])<=300:=by simp only [sz,szL];omega
 refine⟨?_,by simp [lw,lwL,O.1,U.1],e⟩
 unfold isT;rw [uc (show sz (.tup [.tup [.str z,.tup []],.str y])<=600 by omega),uc (show dp (.tup [.tup [.str z,.tup []],.str y])<=12 by simp only [dp,dpL];omega)]
 simp [good,goodL,g1,g2]
def sp_srcd:Sp:=λvs H Q _=>∃(p L:o3) (zs:oj Str),vs= [.ref p,.ref L]/\PotQ H p/\H L=some (.lst (zs.map V.str))/\Nm4 zs/\∀(v:V) (d:D) (H':Hp),SrcOk d->Is H' d v->PotQ H' p->Kept p H H'->Q v H'
theorem tr_src {k:Str}{d:D}(O:k="leaf"∨k="rule")(h:TrOk d):SrcOk (.tup [.str k,d]):=src_leaf O h.1 h.2.1 h.2.2
theorem src_row {H:Hp}{p:o3}{k:Str}{d:D}{v:V}{Q:VK}(O:k="leaf"∨k="rule")(h:TrOk d)(hv:Is H d v)(q:∀t H',Same H H'->Is H' (.tup [.str k,d]) (.ref t)->SrcOk (.tup [.str k,d])->Q (.ref t) H'): [V.str k,v].length<=sizeLine/\∀t,H t=none->Q (.ref t) (upd H t (.tup [.str k,v])):=by
 refine⟨by show 2<=sizeLine;decide,λt U=>q t _ (qg U _) (Is.new (ds:= [.str k,d]) ⟨_,0,⟨1,?_⟩,_,0,hv,1⟩ U) (tr_src O h)⟩
 rcases O with rfl|rfl<;>decide+kernel
theorem ok_leaf (T:Tx K mg a):FnOk P w K mg base CX0 5 a.wR a.wA ["pot","names"] sp_tre:=by
 have qS:=Xt (P:=P) (w:=w) (base:=base) T;have QL:=ok_word (P:=P) (w:=w) (base:=base) T;have Xr:=ok_rule (P:=P) (w:=w) (base:=base) T;refine T.g_law_leaf.F.ok Za () (λ_ _ _ _ H _ Q E hr h=> ?_)
 obtain⟨p,L,zs,rfl,hP,hL,hN,k⟩:=h;have aa:∀{z:Str},Wd 4 z->Wd 20 z:=λh=>⟨h.1,by have:=h.2;omega⟩
 refine⟨_,#[qc,5,#[qC,2,(2),4,Za.nd,rfl,Or.inl rfl,#[qx,16,qS,hr.mono (),_,T.g_law_take.m,T.g_law_take.F.kp,T.g_law_take.b,.nil,qB,#[qb,5,pv 0,#[qb,5,qk,qd,_],_],_,_,_],_,_],#[qc,5,#[qI,8,#[qr,8,op_lt,pv 2,qk,qz _],#[qe,3,#[qq,4,#[qx,16,QL,hr.mono (),_,T.g_law_word.m,T.g_law_word.F.kp,T.g_law_word.b,.nil,qB,#[qb,5,pv 0,#[qb,5,pv 1,qd,_],_],_,_,_]]],qw],#[qc,5,#[qI,8,#[qr,8,QM,pv 2,qk,qz _],#[qe,3,#[qq,4,#[qY,9,qT,_,T.Qz,vf,#[qb,5,#[JX,2,["k","pot","names"],(1),[0,1],9,lcsN (qi Jf) ["pot","names","kind"],rfl,#[jt,6,_,T.Xn,#[qb,5,#[qx,16,qS,hr.mono (),_,T.g_law_take.m,T.g_law_take.F.kp,T.g_law_take.b,.nil,qB,#[qb,5,pv 0,#[qb,5,qk,qd,_],_],_,_,_],qd,_],_],(λ_ _ _ _ _ _=>#[qO,2,(0),1,(show List.Nodup (["k","pot","names"]:oj Str) by decide+kernel),rfl,Or.inl rfl,_]),(λ_ _ _ _ _ _=> @Q5 _),(λ_ _ _ _ _ _=>#[qx,16,QL,hr.mono (),_,T.g_law_word.m,T.g_law_word.F.kp,T.g_law_word.b,.nil,qB,#[qb,5,pv 1,#[qb,5,pv 2,qd,_],_],_,_,_]),_],qd,_],_,_,_,_]]],qw],#[qc,5,#[qI,8,#[qr,8,QM,pv 2,qk,qz _],#[qe,3,#[qq,4,#[qF,5,#[qb,5,#[qF,5,#[qb,5,#[qx,16,QL,hr.mono (),_,T.g_law_word.m,T.g_law_word.F.kp,T.g_law_word.b,.nil,qB,#[qb,5,pv 0,#[qb,5,pv 1,qd,_],_],_,_,_],#[qb,5,#[qF,5,qd],qd,_],_]],#[qb,5,#[qx,16,QL,hr.mono (),_,T.g_law_word.m,T.g_law_word.F.kp,T.g_law_word.b,.nil,qB,#[qb,5,pv 0,#[qb,5,pv 1,qd,_],_],_,_,_],qd,_],_]]]],qw],#[qc,5,#[qI,8,#[qr,8,QM,pv 2,qk,qz _],#[qe,3,#[qq,4,#[qx,16,Xr,hr.mono (),_,T.g_law_rule.m,T.g_law_rule.F.kp,T.g_law_rule.b,.nil,qB,#[qb,5,pv 0,#[qb,5,pv 1,qd,_],_],_,_,_]]],qw],#[qe,3,#[qq,4,#[qF,5,#[qb,5,#[qZ,8,Qj,qm,#[qx,16,QL,hr.mono (),_,T.g_law_word.m,T.g_law_word.F.kp,T.g_law_word.b,.nil,qB,#[qb,5,pv 0,#[qb,5,pv 1,qd,_],_],_,_,_]],#[qb,5,qm,#[qb,5,qm,qd,_],_],_]]]]]]]]],?_⟩
 try dsimp only [cxOf,Cx.nox]
 refine⟨0,p,(6),1,hP,by decide,by decide,λd1 H1 a0 a1 P1 K1=> ?_⟩
 have O:=K1 _ _ hL (hP.ne_strs hL);refine⟨0,_,0,1,0,ite2 (λ_=> ?_) (λ_=> ?_)⟩
 ·exact⟨0,0,p,L,zs,1,P1,O,hN,λz H2 hz U K2=>k _ _ H2 (tr_str (aa hz)) ⟨1,fits (by have:=hz.2;omega)⟩ U (K1.trans K2)⟩
 refine⟨0,1,0,ite2 (λ_=> ?_) (λ_=> ?_)⟩
 ·refine⟨0,p,(4),1,P1,by decide,by decide,λd2 H2 b0 b1 U K2=> ?_⟩
  have ac:=K2 _ _ O (P1.ne_strs O);obtain⟨n,rfl,hn⟩:∃n:Nat,d2=(n:Int)/\n<4:=⟨d2.toNat,by omega,by omega⟩
  refine⟨n,1,by omega,by omega,λD hD=> ?_⟩
  have nD:D≠p:=(U.free hD).symm;refine zr (lo:=0) (n:=n) (tl:= [some (.ref p),some (.ref L)]) (λi ys H'=>∃rs:oj Str,ys=rs.map V.str/\rs.length=i/\(∀r∈rs,Wd 20 r)/\PotQ H' p/\(∀b o,H2 b=some o->b≠p->H' b=some o)) (yq (by omega)) ⟨[],1,1,λb hb=>by simp at hb,U.same (qg hD _),λb o e _=>qg hD _ _ _ e⟩ ?_ ?_
  ·rintro j ys H' hj ⟨rs,rfl,af,ad,P',K'⟩ ae hy R hR;have ao:=K' _ _ ac (U.ne_strs ac);refine⟨0,0,p,L,zs,1,P',ao,hN,λr H8 ap P8 K8=> ?_⟩;refine hR _ H8 (K8 _ _ ae nD) ⟨rs++ [r],by rw [uu];rfl,by rw [uD,af];rfl,λb hb=> ?_,?_,λb o e np=> ?_⟩
   ·rcases List.mem_append.mp hb with h|h
    ·exact ad b h
    ·rw [Ua] at h;subst h;exact aa ap
   ·obtain⟨x,e2,h2⟩:=P8;exact⟨x,by rw [qh nD.symm];exact e2,h2⟩
   ·rw [qh (qj e hD)];exact K8 _ _ (K' b o e np) np
  ·rintro ys H' ⟨rs,rfl,af,ad,P',K'⟩ ae;refine⟨D,0,.inl ⟨SqL.of ae,λt ht=> ?_⟩⟩;have s3:=qg ht (.tup (rs.map V.str));exact k _ _ _ (tr_row (by omega) ad) (Wi ad ht) (P'.same s3) (λb o e np=>s3 _ _ (K' b o ((K1.trans K2) b o e np) np))
 refine⟨0,1,0,ite2 (λ_=> ?_) (λ_=> ?_)⟩
 ·refine⟨0,0,p,L,zs,1,P1,O,hN,λz1 H2 ag U K2=>⟨uW _,λt0 ah=>⟨by show 2<=sizeLine;decide,λt1 ak=> ?_⟩⟩⟩
  have ac:=K2 _ _ O (P1.ne_strs O);have s0:=qg ah (.tup ([]:oj V));have s1:=s0.trans (qg ak (.tup [.str z1,.ref t0]));have i0:Is (upd H2 t0 (.tup [])) (.tup []) (.ref t0):=Is.new (ds:= []) rfl ah;have i1:Is (upd (upd H2 t0 (.tup [])) t1 (.tup [.str z1,.ref t0])) (.tup [.str z1,.tup []]) (.ref t1):=Is.new (ds:= [.str z1,.tup []]) ⟨_,0,⟨1,fits (by have:=ag.2;omega)⟩,_,0,i0,1⟩ ak
  generalize upd (upd H2 t0 (.tup [])) t1 (.tup [.str z1,.ref t0])=H3 at s1 i1⊢;have P3:=U.same s1;refine⟨0,0,p,L,zs,1,P3,s1 _ _ ac,hN,λz2 H4 al P4 K4=>⟨by show 2<=sizeLine;decide,λt2 am=> ?_⟩⟩
  have s2:=qg am (.tup [.ref t1,.str z2]);refine k _ _ _ (tr_three (aa ag) (aa al)) (Is.new (ds:= [.tup [.str z1,.tup []],.str z2]) ⟨_,0,i1.mono (P3.tk P4 K4),_,0,⟨1,fits (by have:=al.2;omega)⟩,1⟩ am) (P4.same s2) ((((K1.trans K2).trans (Kept.of s1)).trans K4).trans (Kept.of s2))
 refine⟨0,1,0,ite2 (λ_=> ?_) (λ_=> ?_)⟩
 ·exact⟨0,0,p,L,zs,1,P1,O,hN,λv d H2 hd hv U K2=>k v d H2 hd hv U (K1.trans K2)⟩
 ·have ta:Wd 7 "text a ":=⟨by decide+kernel,ug _⟩
  refine⟨0,0,p,L,zs,1,P1,O,hN,λz H2 hz U K2=>⟨_,0,1,fits (by have:=hz.2;have:=ta.2;omega),by show 3<=sizeLine;decide,λt ht=> ?_⟩⟩
  have all:∀y∈(["text a "++z,"ask b a","say b"]:oj Str),Wd 20 y:=λy hy=>by
   simp only [uB,uC,uM] at hy;rcases hy with rfl|rfl|rfl
   ·exact ta.cat hz (by omega)
   ·exact⟨by decide+kernel,by decide⟩
   ·exact⟨by decide+kernel,by decide⟩
  have s2:=qg ht (.tup ((["text a "++z,"ask b a","say b"]:oj Str).map V.str));exact k _ _ _ (tr_row (by show 3<=14;decide) all) (Wi all ht) (U.same s2) ((K1.trans K2).trans (Kept.of s2))
theorem ok_srcd (T:Tx K mg a):FnOk P w K mg base CX0 6 a.X7 a.XZ ["pot","names"] sp_srcd:=by
 have qS:=Xt (P:=P) (w:=w) (base:=base) T;have w6:=ok_leaf (P:=P) (w:=w) (base:=base) T;have Xr:=ok_rule (P:=P) (w:=w) (base:=base) T;have O:=ok_maker (P:=P) (w:=w) (base:=base) T;refine T.g_law_source.F.ok xo () (λ_ _ _ _ H _ Q E hr h=> ?_)
 obtain⟨p,L,zs,rfl,hP,hL,hN,k⟩:=h;have ae:=hN.1;have af:=hN.2.1;refine⟨_,#[qc,5,#[qC,2,(2),4,xo.nd,rfl,Or.inl rfl,#[qx,16,qS,hr.mono (),_,T.g_law_take.m,T.g_law_take.F.kp,T.g_law_take.b,.nil,qB,#[qb,5,pv 0,#[qb,5,qk,qd,_],_],_,_,_],_,_],#[qc,5,#[qI,8,#[qr,8,op_lt,pv 2,qk,qz _],#[qe,3,#[qq,4,#[qF,5,#[qb,5,qm,#[qb,5,#[qx,16,w6,hr.mono (),_,T.g_law_leaf.m,T.g_law_leaf.F.kp,T.g_law_leaf.b,.nil,qB,#[qb,5,pv 0,#[qb,5,pv 1,qd,_],_],_,_,_],qd,_],_]]]],qw],#[qc,5,#[qI,8,#[qr,8,op_lt,pv 2,qk,qz _],#[qe,3,#[qq,4,#[qF,5,#[qb,5,qm,#[qb,5,#[qx,16,Xr,hr.mono (),_,T.g_law_rule.m,T.g_law_rule.F.kp,T.g_law_rule.b,.nil,qB,#[qb,5,pv 0,#[qb,5,pv 1,qd,_],_],_,_,_],qd,_],_]]]],qw],#[qc,5,#[qI,8,#[qr,8,QM,pv 2,qk,qz _],#[qe,3,#[qq,4,#[qF,5,#[qb,5,qm,#[qb,5,#[qx,16,O,hr.mono (),_,T.g_law_maker.m,T.g_law_maker.F.kp,T.g_law_maker.b,.nil,qB,#[qb,5,pv 0,#[qb,5,pv 1,qd,_],_],_,_,_],qd,_],_]]]],qw],#[qc,5,@qI _ _ _ _ _ _ _ _ #[pw_and,7,#[qr,8,QM,pv 2,qk,qz _],#[pw_and1,4,#[qr,8,QM,#[qx,16,qS,hr.mono (),_,T.g_law_take.m,T.g_law_take.F.kp,T.g_law_take.b,.nil,qB,#[qb,5,pv 0,#[qb,5,qk,qd,_],_],_,_,_],qk,qz _]]].pt #[qe,3,#[qq,4,#[qF,5,#[qb,5,qm,#[qb,5,#[qx,16,w6,hr.mono (),_,T.g_law_leaf.m,T.g_law_leaf.F.kp,T.g_law_leaf.b,.nil,qB,#[qb,5,pv 0,#[qb,5,pv 1,qd,_],_],_,_,_],qd,_],_]]]] qw,#[qe,3,#[qq,4,#[qF,5,#[qb,5,qm,#[qb,5,#[qL,7,Yz,pv 1,#[qx,16,qS,hr.mono (),_,T.g_law_take.m,T.g_law_take.F.kp,T.g_law_take.b,.nil,qB,#[qb,5,pv 0,#[qb,5,#[qy,9,qR,_,T.Yl,uJ,#[qb,5,pv 1,qd,_],_,_,_,_],qd,_],_],_,_,_],(λ_ _=>rfl)],qd,_],_]]]]]]]]],?_⟩
 try dsimp only [cxOf,Cx.nox]
 refine⟨0,p,(10),1,hP,by decide,by decide,λd1 H1 a0 a1 P1 K1=> ?_⟩
 have aa:=K1 _ _ hL (hP.ne_strs hL);have fin:∀{U H2:Hp}{kk:Str}{d:D}{v:V},PotQ U p->Kept p H U->kk="leaf"∨kk="rule"->TrOk d->Is H2 d v->PotQ H2 p->Kept p U H2-> [V.str kk,v].length<=sizeLine/\∀t,H2 t=none->Q (.ref t) (upd H2 t (.tup [.str kk,v])):=λ{U H2 kk d v} P3 K3 hk hd hv P2 K2=>
  src_row (p:=p) hk hd hv λt H4 s4 i4 o4=>k _ _ H4 o4 i4 (P2.same s4) ((K3.trans K2).trans (Kept.of s4))
 refine⟨0,_,0,1,0,ite2 (λ_=> ?_) (λ_=> ?_)⟩
 ·exact⟨0,0,p,L,zs,1,P1,aa,hN,λv d H2 hd hv P2 K2=>fin P1 K1 (.inl rfl) hd hv P2 K2⟩
 refine⟨0,_,0,1,0,ite2 (λ_=> ?_) (λ_=> ?_)⟩
 ·exact⟨0,0,p,L,zs,1,P1,aa,hN,λv d H2 hd hv P2 K2=>fin P1 K1 (.inr rfl) hd hv P2 K2⟩
 refine⟨0,1,0,ite2 (λ_=> ?_) (λ_=> ?_)⟩
 ·exact⟨0,0,p,L,zs,1,P1,aa,hN,λv d H2 hd hv P2 K2=>fin P1 K1 (.inr rfl) hd hv P2 K2⟩
 have made:∀{U:Hp},PotQ U p->Kept p H U->∃v0,[some (V.ref p),some (V.ref L),some (V.int d1)][1]? =some (some v0)/\∃v1,[some (V.ref p),some (V.ref L),some (V.int d1)][0]? =some (some v1)/\∃v2,[some (V.ref p),some (V.ref L),some (V.int d1)][1]? =some (some v2)/\∃q ys,[v2]= [V.ref q]/\(SqL K U q ys∨SqT K U q ys)/\sp_takQ [v1,.int (ys.length:Int)] U (λy H4=>rIxL K v0 y H4 λy H5=>([V.str "made",y].length<=sizeLine/\∀t,H5 t=none->Q (.ref t) (upd H5 t (.tup [.str "made",y])))) E0:=by
  intro U P3 K3;have ac:=K3 _ _ hL (hP.ne_strs hL);refine⟨0,0,0,L,0,.inl (SqL.of ac),p,0,P3,by rw [u9];omega,by rw [u9];omega,λd2 H4 b0 b1 P4 K4=> ?_⟩
  obtain⟨v,hv⟩:=j9 (xs:=zs.map V.str) b0 b1;obtain⟨z,hz,rfl⟩:=List.mem_map.mp (Xx hv);refine⟨L,_,_,0,1,SqL.of (K4 _ _ ac (P3.ne_strs ac)),hv,by show 2<=sizeLine;decide,λt ht=> ?_⟩
  have s4:=qg ht (.tup [.str "made",.str z]);have ad:=hN.2.2 z hz;exact k _ _ _ (src_made ad.1) (Is.new (ds:= [.str "made",.str z]) ⟨_,0,⟨1,by decide+kernel⟩,_,0,⟨1,fits (by omega)⟩,1⟩ ht) (P4.same s4) ((K3.trans K4).trans (Kept.of s4))
 refine⟨0,1,0,ite2 (λ_=> ?_) (λ_=> ?_)⟩
 ·refine⟨0,p,(4),1,P1,by decide,by decide,λd2 H2 b0 b1 P2 K2=>⟨1,0,ite2 (λ_=> ?_) (λ_=> ?_)⟩⟩
  ·exact⟨0,0,p,L,zs,1,P2,K2 _ _ aa (P1.ne_strs aa),hN,λv d U hd hv P3 K3=>fin P2 (K1.trans K2) (.inr rfl) hd hv P3 K3⟩
  ·exact made P2 (K1.trans K2)
 ·exact iteF (made P1 K1)
theorem SqL.keepK {K:o0}{H H':Hp}{a:o3}{xs:oj V}(e:∀o,H a=some o->H' a=some o)(h:SqL K H a xs):SqL K H' a xs:=by
 rcases h with(h|⟨o,h⟩)|h
 ·exact .inl (.inl (e _ h))
 ·exact .inl (.inr ⟨o,e _ h⟩)
 ·exact .inr h
def N8:oj Str:= ["a","b1","c/d","e.f","g","h9","k","m/n"]
theorem n8_ok:∀z∈N8,nm z=true/\z.length<=4:=by decide+kernel
theorem n8_nd:N8.Nodup:=by decide+kernel
theorem n8_take {n:Nat}(h1:1<=n)(h2:n<=8):Nm4 (N8.take n)/\(N8.take n).length=n:=by
 have e:(N8.take n).length=n:=by rw [vn];show min n 8=n;omega
 exact⟨⟨by omega,by omega,λz O=>n8_ok z (List.mem_of_mem_take O)⟩,e⟩
theorem cut_take {vs:oj V}{n:Nat}:cutV vs none (some (n:Int))=vs.take n:=by
 unfold cutV;rw [HT.sIx_none,HT.sIx_nat,List.drop_zero,Nat.sub_zero];rcases Nat.le_total n vs.length with h|h
 ·rw [Nat.min_eq_left h]
 ·rw [Nat.min_eq_right h,v9 (ug _),v9 h]
theorem ints_of {ns:oj Int}:∀{ys:oj V},(∀y∈ys,y∈ns.map V.int)->∃O:oj Int,ys=O.map V.int
 | [],_=>⟨[],1⟩
 |y::r,h=>by
  obtain⟨i,_,e⟩:=List.mem_map.mp (h y ud);obtain⟨O,e2⟩:=ints_of (ys:=r) λz U=>h z (ub _ U);exact⟨i::O,by rw [e2,<-e];rfl⟩
def sp_lprs (K:o0):Sp:=λvs H Q _=>∃(q:o3) (ns:oj Int),vs= [.ref q]/\SqL K H q (ns.map V.int)/\
 ∀(L:o3) (ps:oj (Str×D)) (us:oj V) (H':Hp),H L=none->Same H H'->H' L=some (.lst us)->L2.IsL H' (ps.map prD) us->PrOk ps->ps.length<=60->Q (.ref L) H'
theorem sq_sm {K:o0}{H H':Hp}{q:o3}{xs:oj V}(h:SqL K H q xs)(s:Same H H'):SqL K H' q xs:=SqL.keepK (λo e=>s _ _ e) h
theorem ok_lsrcs (T:Tx K mg a):FnOk P w K mg base CX0 7 a.xn a.x6 ["script"] (sp_lprs K):=by
 have WC:=ok_cell (P:=P) (w:=w) (base:=base) T;have aa:=ok_potQ (P:=P) (w:=w) (base:=base) T;have U:=ok_srcd (P:=P) (w:=w) (base:=base) T;refine T.g_law_sources.F.ok QX () (λ_ _ _ _ H _ Q E hr h=> ?_)
 obtain⟨q,ns,rfl,hq,k⟩:=h;have hs:=uA;refine⟨_,#[qc,5,#[qC,2,(1),4,QX.nd,rfl,Or.inl rfl,#[zA,10,sl_list,#[QO,4,#[qb,5,qm,#[qb,5,qm,#[qb,5,qm,#[qb,5,qm,#[qb,5,qm,#[qb,5,qm,#[qb,5,qm,#[qb,5,qm,qd,_],_],_],_],_],_],_],_]],Wz,#[zW,3,#[qZ,8,yR,qk,#[qZ,8,wm,#[qx,16,WC,hr.mono (),_,T.g_law_cell_at.m,T.g_law_cell_at.F.kp,T.g_law_cell_at.b,.nil,qB,#[qb,5,pv 0,#[qb,5,qk,qd,_],_],_,_,_],qk]]]],_,_],#[qc,5,#[qC,2,(2),4,QX.nd,rfl,Or.inl rfl,#[QO,4,qd],_,_],#[qc,5,#[jv,8,v6,rfl,#[jt,6,_,T.Xn,#[qb,5,#[qy,9,qR,_,T.Yl,uJ,#[qb,5,pv 1,qd,_],_,_,_,_],qd,_],_],#[qO,2,(3),1,QX.nd,rfl,Or.inl rfl,_],#[qc,5,#[qC,2,(4),4,QX.nd,rfl,Or.inl rfl,#[qy,9,#[call_sumL,1,rfl],_,T.z_sum,boot_sum,#[qb,5,#[pe_stepL,10,(by decide),pv 0,#[zW,3,#[qZ,8,yR,qk,pv 3]],_],qd,_],_,_,_,_],_,_],#[qe,3,#[qI,8,#[qr,8,op_ne,#[qZ,8,wm,pv 4,qk],qk,qz _],#[qe,3,#[qU,4,#[jU,12,uY,vT,vU,jP,pv 2,#[qb,5,#[qF,5,#[qb,5,#[qL,7,Yz,pv 1,pv 3,(λ_ _=>rfl)],#[qb,5,#[qx,16,U,hr.mono (),_,T.g_law_source.m,T.g_law_source.F.kp,T.g_law_source.b,.nil,qB,#[qb,5,#[qx,16,aa,hr.mono (),_,T.g_law_pot.m,T.g_law_pot.F.kp,T.g_law_pot.b,.nil,qB,#[qb,5,pv 4,#[qb,5,pv 3,qd,_],_],_,_,_],#[qb,5,pv 1,qd,_],_],_,_,_],qd,_],_]],qd,_],_,_,_,_,_],_]],qw]]],_],#[qe,3,#[qq,4,pv 2]]]]],?_⟩
 try dsimp only [cxOf,Cx.nox]
 refine⟨by show 8<=sizeLine;omega,λl0 ax=> ?_⟩
 have s0:=qg ax (.lst (N8.map V.str));have e0:(upd H l0 (.lst (N8.map V.str))) l0=some (.lst (N8.map V.str)):=qf;show tNoPart _ (upd H l0 (.lst (N8.map V.str))) _;generalize upd H l0 (.lst (N8.map V.str))=H0 at s0 e0⊢;refine⟨0,q,ns,(0),1,by decide,(sq_sm hq s0),λc=>⟨_,0,1,(by show(0:Int)<8;decide),_,0,1,?_⟩⟩
 have m1:0<=c%8/\c%8<8:=⟨Int.emod_nonneg _ (by decide),UA _ (by decide)⟩
 obtain⟨n,hn,ay,aA⟩:∃n:Nat,1+c%8=(n:Int)/\1<=n/\n<=8:=⟨(1+c%8).toNat,by omega,by omega,by omega⟩
 obtain⟨hN,aB⟩:=n8_take ay aA;dsimp only;rw [hn];refine⟨0,l0,0,SqL.of e0,λl hl=> ?_⟩;rw [cut_take,<-List.map_take];have am:(N8.take n).Nodup:=List.Nodup.sublist (List.take_sublist _ _) n8_nd;generalize N8.take n=zs at hN aB am⊢;have s1:=s0.trans (qg hl (.lst (zs.map V.str)));have e1:(upd H0 l (.lst (zs.map V.str))) l=some (.lst (zs.map V.str)):=qf;generalize upd H0 l (.lst (zs.map V.str))=H1 at s1 e1⊢;refine⟨uW _,λL hL=> ?_⟩;have s2:=s1.trans (qg hL (.lst ([]:oj V)));have ao:H L=none:=s1.free hL;have aC:l≠L:=qj e1 hL;have e2:=qg hL (.lst ([]:oj V)) _ _ e1;have eL:(upd H1 L (.lst [])) L=some (.lst []):=qf;generalize upd H1 L (.lst [])=H2 at s2 e2 eL⊢;refine⟨0,l,0,.inl (SqL.of e2),zs.length,by rw [u9],by omega,by omega,?_⟩
 refine for_range (n:=zs.length) (λi σ H'=>∃(ps:oj (Str×D)) (us:oj V) (x3 x4:om V),σ= [some (.ref q),some (.ref l),some (.ref L),x3,x4]/\Same H H'/\H' l=some (.lst (zs.map V.str))/\H' L=some (.lst us)/\L2.IsL H' (ps.map prD) us/\(ps.map (·.1)).Sublist (zs.take i)/\∀p∈ps,SrcOk p.2) ⟨[],[],none,none,1,s2,e2,eL,1,List.nil_sublist _,λp hp=>by simp at hp⟩ ?_ ?_
 ·rintro i σ H' hi ⟨ps,us,x3,x4,rfl,sm,el,ak,af,O,ac⟩;have aJ:ps.length<=8:=by
   have h1:=O.length_le;rw [u9,vn] at h1;omega
  have aD:=af.length;rw [u9] at aD;refine⟨0,0,_,0,1,0,q,0,(sq_sm hq sm),λys y0 _ ap aE=> ?_⟩;obtain⟨ms,rfl⟩:=ints_of ap;have sy:=qg aE (.lst (ms.map V.int));have ey:(upd H' y0 (.lst (ms.map V.int))) y0=some (.lst (ms.map V.int)):=qf;have ad:=sy _ _ ak;have ae:=sy _ _ el;generalize upd H' y0 (.lst (ms.map V.int))=H3 at sy ey ad ae⊢;have ah:=af.mono sy.tk;have aq:=sm.trans sy;refine⟨y0,ms,1,SqL.of ey,?_⟩;refine⟨0,_,0,1,(by show(0:Int)<11;decide),1,0,ite2 (λ_=> ?_) (λ_=> ?_)⟩
  ·have al:i<zs.length:=hi;refine⟨0,.inl ⟨1,_,SqL.of ad⟩,0,0,l,_,_,V.str zs[i],1,1,SqL.of ae,?_,?_⟩
   ·rw [show(0:Int)+(i:Int)=((i:Nat):Int) by omega]
    exact QW (by rw [uF,uf al];rfl)
   refine⟨0,0,_,0,by omega,by omega,λp H4 hp s4 P4=> ?_⟩
   have aF:=s4 _ _ ae;have aK:=s4 _ _ ad;have aL:L≠p:=qj ad hp;refine⟨0,p,l,zs,1,P4,aF,hN,λv d H5 hd hv P5 K5=>⟨by show 2<=sizeLine;omega,λt ht=> ?_⟩⟩
   have aG:Same H3 H5:=K5.same s4 hp;have st:=qg ht (.tup [.str zs[i],v]);have hz:=hN.2.2 _ (uT al);have au:Is (upd H5 t (.tup [.str zs[i],v])) (prD (zs[i],d)) (.ref t):=Is.new (ds:= [.str zs[i],d]) ⟨_,0,⟨1,fits (by omega)⟩,_,0,hv,1⟩ ht
   generalize upd H5 t (.tup [.str zs[i],v])=H6 at st au⊢;have ag:=aG.trans st;have aw:=ag _ _ ad;refine⟨L,us,0,1,aw,by omega,?_⟩
   have tk:Tk H6 (upd H6 L (.lst (us++ [.ref t]))):=Tk.updL aw;refine⟨ps++ [(zs[i],d)],us++ [.ref t],_,0,λb o e=> ?_,?_,qf,?_,?_,λp' aH=> ?_⟩
   ·rw [qh (qj e ao)];exact ag _ _ (aq _ _ e)
   ·rw [qh aC];exact ag _ _ ae
   ·rw [uu];exact((ah.mono ag.tk).mono tk).append (L2.IsL.one (au.mono tk))
   ·rw [take1 al,uu];exact O.append (List.Sublist.refl _)
   ·rcases List.mem_append.mp aH with h|h
    ·exact ac p' h
    ·cases List.mem_singleton.mp h;exact hd
  ·exact⟨ps,us,_,0,aq,ae,ad,ah,O.trans (by rw [take1 hi];exact List.sublist_append_left _ _),ac⟩
 ·rintro σ H' ⟨ps,us,x3,x4,rfl,sm,el,ak,af,O,ac⟩;rw [Um] at O;have aI:=O.length_le;rw [u9] at aI;exact⟨0,k L ps us H' ao sm ak af ⟨⟨λz hz=>(hN.2.2 z (O.mem hz)).1,am.sublist O⟩,ac⟩ (by omega)⟩
def sp_badl:Sp:=λvs H Q _=>∃(v:V) (d:D),vs= [v]/\Is H d v/\∀(u:V) (H':Hp),Same H H'->((QZ d).isSome=true->u= .non)->((QZ d).isSome=false->u≠ .non)->Q u H'
def sp_isrule:Sp:=λvs H Q _=>∃(v:V) (d:D),vs= [v]/\Is H d v/\∀H',Same H H'->Q (.bl (QZ d).isSome) H'
theorem ok_badl (T:Tx K mg a)(C:Fx K w mg g a):FnOk P w K mg base CX0 4 a.wM a.wD ["tree"] sp_badl:=by
 have jq:=ok_read (P:=P) (w:=w) (base:=base) T C;refine T.g_bad_line.F.ok sc_bad_line () (λ_ _ _ s H _ Q E hr h=> ?_)
 obtain⟨v,d,rfl,hv,k⟩:=h;refine⟨_,#[qe,3,#[qq,4,#[qL,7,qJ,#[qx,16,jq,hr.mono (),_,T.g_read_lines.m,T.g_read_lines.F.kp,T.g_read_lines.b,.nil,qB,#[qb,5,pv 0,qd,_],_,_,_],qk,(λ_ _=>rfl)]]],?_⟩
 try dsimp only [cxOf,Cx.nox]
 refine⟨0,v,d,1,hv,λu H' x y s' U hu=> ?_⟩;obtain⟨p,ws,rfl,hp,w1,r1,rfl,h1,w2,r2,rfl,h2,h3⟩:=hu;cases(show r2= [] from h3)
 refine⟨p,_,_,0,1,SqT.of hp,1,k _ H' s' (λe=> ?_) (λe=> ?_)⟩
 ·obtain⟨rs,O⟩:=xI e;obtain⟨_,rfl⟩:=U.1 rs O;exact h2
 ·have hn:QZ d=none:=by
   cases hh:QZ d with
   |none=>rfl
   |some rs=>rw [hh] at e;cases e
  obtain⟨i,rfl⟩:=U.2 hn;intro z;rw [z] at h2;cases(show V.non= .int i from h2)
theorem ok_isrule (T:Tx K mg a)(C:Fx K w mg g a):FnOk P w K mg base CX0 5 a.f_is_rule a.d_is_rule ["value"] sp_isrule:=by
 have O:=ok_badl (P:=P) (w:=w) (base:=base) T C;refine T.g_is_rule.F.ok sc_is_rule () (λ_ _ _ s H _ Q E U h=> ?_)
 obtain⟨v,d,rfl,hv,k⟩:=h;refine⟨_,#[qe,3,#[qq,4,#[yo,8,yT,#[qx,16,O,U.mono (),_,T.g_bad_line.m,T.g_bad_line.F.kp,T.g_bad_line.b,.nil,qB,#[qb,5,pv 0,qd,_],_,_,_],qQ,qz _]]],?_⟩
 try dsimp only [cxOf,Cx.nox]
 refine⟨0,v,d,1,hv,λu H' s' h1 h2=>⟨1,?_⟩⟩;have e:decide (u=V.non)=(QZ d).isSome:=by
  cases c:(QZ d).isSome with
  |true=>rw [h1 c];rfl
  |false=>exact ue (h2 c)
 have:=k H' s';rw [<-e] at this;exact this
end
theorem rows_of {n:Nat}:∀{ds:oj D},(∀d∈ds,(Qf n d).isSome=true)->(ds.filterMap (Qf n)).length=ds.length/\ds=(ds.filterMap (Qf n)).map (λr=>D.str (yG r))/\∀r∈ds.filterMap (Qf n),jg n 300 r
 | [],_=>⟨1,1,λr h=>nomatch h⟩
 |d::ds,h=>by
  obtain⟨r,O⟩:=xI (h d ud);obtain⟨h1,h2,h3⟩:=rows_of (n:=n) (ds:=ds) λx U=>h x (ub _ U);have hd:d= .str (yG r)/\jg n 300 r:=by
   cases d with
   |str z=>
    obtain⟨a1,a2⟩:=rowOf_ok (show ZD n z=some r from O)
    exact⟨by rw [a2],a1⟩
   |non=>cases O
   |bl b=>cases O
   |int i=>cases O
   |lst=>cases O
   |dct=>cases O
   |tup xs=>cases O
  rw [vS O];refine⟨by rw [ui,ui,h1],by rw [uq,<-h2,hd.1],λx U=> ?_⟩
  rcases List.mem_cons.mp U with rfl|U
  ·exact hd.2
  ·exact h3 x U
theorem read_rule {d:D}{rs:oj Rw}(h:QZ d=some rs):d=JU rs/\QY rs:=by
 cases d with
 |tup ds=>
  rw [xM] at h;split at h
  ·rename_i O
   simp only [ur,uU] at O;obtain⟨⟨⟨c1,c2⟩,U⟩,c4⟩:=O;cases h;obtain⟨h1,h2,h3⟩:=rows_of (List.all_eq_true.mp U);have e:D.tup ds=JU (ds.filterMap (Qf ds.length)):=by
    unfold JU;rw [<-h2]
   refine⟨e,⟨by omega,by omega,?_,by rw [<-e];exact c4⟩⟩
   rw [h1];exact h3
  ·cases h
 |non=>cases h
 |bl b=>cases h
 |int i=>cases h
 |str z=>cases h
 |lst=>cases h
 |dct=>cases h
def GMT:oj Str:= ["begin","look","wanted","take","full"]
structure GFl (fs:oj (Str×V))(nv ov mv av rv ev:V):Prop where
 XO:fs.lookup ("name":Str)=some nv
 zG:fs.lookup ("order":Str)=some ov
 Yi:fs.lookup ("made_by":Str)=some mv
 yz:fs.lookup ("rule_asks":Str)=some av
 Qk:fs.lookup ("rule_run":Str)=some rv
 f_end:fs.lookup ("end":Str)=some ev
 meth:∀m∈GMT,fs.lookup m=none
 len:fs.length<=20
section
variable {fs:oj (Str×V)}{nv ov mv av rv ev:V}
theorem GFl.set_made_by {u:V}(h:GFl fs nv ov mv av rv ev):GFl (putF "made_by" u fs) nv ov u av rv ev:=by
 refine⟨?_,?_,?_,?_,?_,?_,λm hm=> ?_,by rw [Yo h.Yi];exact h.len⟩
 all_goals rw [qA]
 all_goals first|rw [if_pos rfl]|(rw [if_neg (by decide+kernel)];first|exact h.XO|exact h.zG|exact h.Yi|exact h.yz|exact h.Qk|exact h.f_end)|(rw [if_neg (λe=>by subst e;revert hm;decide+kernel)];exact h.meth m hm)
theorem GFl.set_rule_asks {u:V}(h:GFl fs nv ov mv av rv ev):GFl (putF "rule_asks" u fs) nv ov mv u rv ev:=by
 refine⟨?_,?_,?_,?_,?_,?_,λm hm=> ?_,by rw [Yo h.yz];exact h.len⟩
 all_goals rw [qA]
 all_goals first|rw [if_pos rfl]|(rw [if_neg (by decide+kernel)];first|exact h.XO|exact h.zG|exact h.Yi|exact h.yz|exact h.Qk|exact h.f_end)|(rw [if_neg (λe=>by subst e;revert hm;decide+kernel)];exact h.meth m hm)
theorem GFl.set_rule_run {u:V}(h:GFl fs nv ov mv av rv ev):GFl (putF "rule_run" u fs) nv ov mv av u ev:=by
 refine⟨?_,?_,?_,?_,?_,?_,λm hm=> ?_,by rw [Yo h.Qk];exact h.len⟩
 all_goals rw [qA]
 all_goals first|rw [if_pos rfl]|(rw [if_neg (by decide+kernel)];first|exact h.XO|exact h.zG|exact h.Yi|exact h.yz|exact h.Qk|exact h.f_end)|(rw [if_neg (λe=>by subst e;revert hm;decide+kernel)];exact h.meth m hm)
theorem GFl.set_end {u:V}(h:GFl fs nv ov mv av rv ev):GFl (putF "end" u fs) nv ov mv av rv u:=by
 refine⟨?_,?_,?_,?_,?_,?_,λm hm=> ?_,by rw [Yo h.f_end];exact h.len⟩
 all_goals rw [qA]
 all_goals first|rw [if_pos rfl]|(rw [if_neg (by decide+kernel)];first|exact h.XO|exact h.zG|exact h.Yi|exact h.yz|exact h.Qk|exact h.f_end)|(rw [if_neg (λe=>by subst e;revert hm;decide+kernel)];exact h.meth m hm)
end
structure Gc where
 (x o:o3)
 n:Str
structure Gs where
 mb:D
 ra:oj D
 run:om (Mc×Rn)
 en:D
def Z6 (CM:o3)(H:Hp)(x:o3)(rv:V):om (Mc×Rn)->Prop
 |none=>rv= .non
 |some (m,r)=>rv= .ref m.x/\m.x≠x/\yI CM H m r
def GoAt (C CM:o3)(H:Hp)(g:Gc)(s:Gs):Prop:=
 ∃(dx:o3) (fs:oj (Str×V)) (mv av rv ev:V),H g.x=some (.ins C dx fs)/\GFl fs (.str g.n) (.ref g.o) mv av rv ev/\Is H s.mb mv/\Is H (.tup s.ra) av/\Z6 CM H g.x rv s.run/\Is H s.en ev
theorem Z6.same {CM:o3}{H H':Hp}{x:o3}{rv:V}{o:om (Mc×Rn)}(h:Z6 CM H x rv o)(s:Same H H'):Z6 CM H' x rv o:=by
 cases o with
 |none=>exact h
 |some p=>exact⟨h.1,h.2.1,h.2.2.same s⟩
theorem GoAt.same {C CM:o3}{H H':Hp}{g:Gc}{s:Gs}(h:GoAt C CM H g s)(sm:Same H H'):GoAt C CM H' g s:=by
 obtain⟨dx,fs,mv,av,rv,ev,e,f,i,j,k,l⟩:=h;exact⟨dx,fs,mv,av,rv,ev,sm _ _ e,f,i.mono sm.tk,j.mono sm.tk,k.same sm,l.mono sm.tk⟩
theorem yI.put {CM C:o3}{H:Hp}{m:Mc}{r:Rn}{x dx:o3}{fs fs':oj (Str×V)}(h:yI CM H m r)(e:H x=some (.ins C dx fs))(n:m.x≠x):yI CM (upd H x (.ins C dx fs')) m r:=by
 obtain⟨U,fm,rv,ru,tv,gv,e1,f,i,j,b,O,gl,t⟩:=h;have tk:Tk H (upd H x (.ins C dx fs')):=Tk.updI e;have n1:m.db≠x:=yW.ne e b;have n2:m.dg≠x:=λz=>by rw [z,e] at O;cases O
 exact⟨U,fm,rv,ru,tv,gv,by rw [qh n];exact e1,f,i.mono tk,j.mono tk,b.move tk (qh n1),by rw [qh n2];exact O,gl.mono tk,t.mono tk⟩
theorem Z6.put {CM C:o3}{H:Hp}{x dx:o3}{fs fs':oj (Str×V)}{rv:V}{o:om (Mc×Rn)}(h:Z6 CM H x rv o)(e:H x=some (.ins C dx fs)):Z6 CM (upd H x (.ins C dx fs')) x rv o:=by
 cases o with
 |none=>exact h
 |some p=>exact⟨h.1,h.2.1,h.2.2.put e h.2.1⟩
structure Gv (g:Gc)(H H':Hp):Prop where
 kept:∀b o,H b=some o->b≠g.x->H' b=some o
 tk:Tk H H'
theorem wy {C CM:o3}{H:Hp}{g:Gc}{dx:o3}{fs fs':oj (Str×V)}{mv av rv ev:V}{s:Gs}(e:H g.x=some (.ins C dx fs))(f:GFl fs' (.str g.n) (.ref g.o) mv av rv ev)(i:Is H s.mb mv)(j:Is H (.tup s.ra) av)(k:Z6 CM H g.x rv s.run)(l:Is H s.en ev):
  GoAt C CM (upd H g.x (.ins C dx fs')) g s/\Gv g H (upd H g.x (.ins C dx fs')):=by
 have tk:Tk H (upd H g.x (.ins C dx fs')):=Tk.updI e;exact⟨⟨dx,fs',mv,av,rv,ev,qf,f,i.mono tk,j.mono tk,k.put e,l.mono tk⟩,⟨λb o h n=>by rw [qh n];exact h,tk⟩⟩
noncomputable def lookS (s:Gs)(r:Rn):Gs:=if QK r.th=true then s else{s with en:=r.th}
def sp_look (C CM:o3):Sp:=λvs H Q _=>∃(g:Gc) (s:Gs) (m:Mc) (r:Rn),vs= [.ref g.x]/\GoAt C CM H g s/\s.run=some (m,r)/\Th r.th/\∀H',Gv g H H'->GoAt C CM H' g (lookS s r)->Q .non H'
section
variable {P:o9}{w:og}{K:o0}{mg:Str->om o6}{base:o8}{a:Ad}{g:Ga}
theorem ok_look (T:Tx K mg a):FnOk P w K mg base CX0 2 a.XH a.XY ["self"] (sp_look a.qu a.ql):=by
 have Qg:=ok_wait (P:=P) (w:=w) (base:=base) T;have Y1:=ok_now (P:=P) (w:=w) (base:=base) T;refine T.g_Going_look.F.ok WQ () (λ_ _ _ s H _ Q E hr h=> ?_)
 obtain⟨g,st,m,r,rfl,hG,O,aa,k⟩:=h;refine⟨_,#[qe,3,#[qI,8,#[Qp,4,#[Qe,3,#[Q3,17,#[qG,5,pv 0,rfl],T.qp,T.g_Machine_is_waiting.h,Qg,hr.mono (),T.g_Machine_is_waiting.b,.nil,qB,_],_]],#[qe,3,#[qX,8,pv 0,#[Q3,17,#[qG,5,pv 0,rfl],T.qp,T.g_Machine_now.h,Y1,hr.mono (),T.g_Machine_now.b,.nil,qB,_],rfl]],qw]],?_⟩
 try dsimp only [cxOf,Cx.nox]
 obtain⟨dx,fs,mv,av,rv,ev,e,f,i,j,hR,l⟩:=id hG;rw [O] at hR;obtain⟨rfl,hn,hM⟩:=hR;obtain⟨dm,fm,ac,ru,tv,gv,em,U,i1,i2,i3,i4,i5,i6⟩:=id hM;refine⟨0,g.x,_,dx,fs,0,e,T.qK,T.qN,f.Qk,m.x,dm,fm,1,em,U.meth _ (by decide+kernel),m,r,1,hM,aa,0,?_⟩
 cases c:QK r.th with
 |true=>
  refine iteF (k H ⟨λ_ _ h _=>h,Tk.refl H⟩ ?_);unfold lookS;rw [if_pos c];exact hG
 |false=>
  refine iteT ?_;refine⟨0,g.x,_,dx,fs,0,e,T.qK,T.qN,f.Qk,m.x,dm,fm,1,em,U.meth _ (by decide+kernel),m,r,1,hM,λv hv=> ?_⟩
  refine⟨0,g.x,_,dx,fs,1,e,T.qK,T.QP,by have:=f.len;omega,?_⟩
  have hS:lookS st r={st with en:=r.th}:=by
   unfold lookS;rw [c];exact if_neg u8
  obtain⟨m1,m2⟩:=wy (CM:=a.ql) (s:={st with en:=r.th}) e (f.set_end (u:=v)) i j (by rw [O];exact⟨1,hn,hM⟩) hv
  refine k _ m2 ?_;rw [hS];exact m1
def sp_runner (CM:o3):Sp:=λvs H Q _=>∃(o:o3) (v:V) (rs:oj Rw) (own:Str),vs= [.ref o,v,.str own]/\Is H (JU rs) v/\QY rs/\nm own=true/\∀(mc:Mc) (H':Hp),Same H H'->H mc.x=none->H mc.db=none->H mc.dg=none->mc.rs=rs->mc.own=own->yI CM H' mc (runS rs own [] 300 B0 1 0)->Q (.ref mc.x) H'
theorem ok_runner (T:Tx K mg a)(C:Fx K w mg g a):FnOk P w K mg base CX0 8 a.Yh a.y7 ["self","rule","own"] (sp_runner a.ql):=by
 have ZY:=ok_minit (P:=P) (w:=w) (base:=base) T C;refine T.g_PlainOrder_runner.F.ok Jk () (λ_ _ _ _ H _ Q E hr h=> ?_)
 obtain⟨o,v,rs,own,rfl,hv,hR,hn,k⟩:=h;have hl:=zq hn;have hI:∀H:Hp,Is H (.str own) (.str own):=λH=>YQ (by omega)
 refine⟨_,#[qe,3,#[qq,4,#[WG,17,T.M_Machine,ZY,hr.mono (),_,T.m_Machine,T.g_Machine_init.b,.nil,passF,#[qb,5,pv 1,#[qb,5,pv 2,qd,_],_],_,_,_]]],?_⟩
 try dsimp only [cxOf,Cx.nox]
 refine⟨0,0,λx dx hx aa nx=> ?_⟩;have U:Same H (upd (upd H dx (.own x)) x (.ins a.ql dx [])):=λb o h=>by rw [qh (qj h hx),qh (qj h aa)];exact h
 refine⟨x,dx,v,.str own,JU rs,.str own,1,qf,hv.mono U.tk,hI _,λz=> ?_,λ_ z=> ?_,λO af e1 ac e2 ag ah H' db dg kept ad ae hM=>⟨1,?_⟩⟩
 ·rw [hR.read] at z;cases z
 ·have:isNm (.str own)=true:=hn;rw [this] at z;cases z
 ·have e3:O=rs:=by
   have h1:=hR.read;rw [e1,ac.read] at h1;exact uE h1
  cases e2;subst e3;exact k ⟨x,db,dg,O,own⟩ H' (λb o h=>kept b o (U b o h) (qj h hx)) hx (U.free ad) (U.free ae) rfl rfl hM
def R0 (rs:oj Rw)(n:Str):Rn:=runS rs n [] 300 B0 1 0
structure BegOk (H:Hp)(g:Gc)(d:D)(s s':Gs):Prop where
 mb:s'.mb=s.mb
 ra:s'.ra=s.ra
 lack:d= .non->s'.run=none/\s'.en=flt "lack"
 rule:d≠ .non->QZ d=none->s'.run=none/\s'.en=flt "rule"
 go:∀rs,QZ d=some rs->∃mc:Mc,H mc.x=none/\H mc.db=none/\H mc.dg=none/\mc.rs=rs/\mc.own=g.n/\s'.run=some (mc,R0 rs g.n)/\s'.en=if QK (R0 rs g.n).th=true then s.en else(R0 rs g.n).th
def sp_begin (C CM CO:o3):Sp:=λvs H Q _=>∃(g:Gc) (s:Gs) (v:V) (d:D),vs= [.ref g.x,v]/\GoAt C CM H g s/\s.run=none/\nm g.n=true/\Is H d v/\(∃dx fs,H g.o=some (.ins CO dx fs)/\fs.lookup ("runner":Str)=none)/\∀H' s',Gv g H H'->GoAt C CM H' g s'->BegOk H g d s s'->Q .non H'
theorem R0_ok {rs:oj Rw}{n:Str}(h:QY rs):RnOk rs (R0 rs n):=runS_ok h 300 B0 1 0 [] rfl B0_tr (by decide) (by have:=h.n0;omega) ⟨1,by simp [dpL],ug _⟩
theorem R0_th {rs:oj Rw}{n:Str}(h:QY rs):Th (R0 rs n).th:= .inr (R0_ok h).two
theorem ok_begin (T:Tx K mg a)(C:Fx K w mg g a):FnOk P w K mg base CX0 9 a.xu a.xO ["self","rule"] (sp_begin a.qu a.ql a.qo):=by
 have O:=ok_isrule (P:=P) (w:=w) (base:=base) T C;have J7:=ok_runner (P:=P) (w:=w) (base:=base) T C;have jK:=ok_look (P:=P) (w:=w) (base:=base) T;refine T.g_Going_begin.F.ok Z1 () (λ_ _ _ s H _ Q E hr h=> ?_)
 obtain⟨g,st,v,d,rfl,hG,U,hn,hv,⟨ae,af,ho,ag⟩,k⟩:=h;have hs:=uA;obtain⟨dx,fs,mv,av,rv,ev,e,f,i,j,hR,l⟩:=id hG;rw [U] at hR;refine⟨_,#[qe,3,#[qI,8,#[qr,8,yT,pv 1,qQ,qz _],#[qe,3,#[qX,8,pv 0,#[qF,5,#[qb,5,qm,#[qb,5,qm,qd,_],_]],rfl]],#[qe,3,#[qI,8,#[Qp,4,#[Qe,3,#[qx,16,O,hr.mono (),_,T.g_is_rule.m,T.g_is_rule.F.kp,T.g_is_rule.b,.nil,qB,#[qb,5,pv 1,qd,_],_,_,_],_]],#[qe,3,#[qX,8,pv 0,#[qF,5,#[qb,5,qm,#[qb,5,qm,qd,_],_]],rfl]],#[qc,5,#[qX,8,pv 0,#[Qr,20,#[qG,5,pv 0,rfl],T.qv,T.g_PlainOrder_runner.h,J7,hr.mono (),T.g_PlainOrder_runner.b,.nil,qB,#[qb,5,pv 1,#[qb,5,#[qG,5,pv 0,rfl],qd,_],_],_,_,_],rfl],#[qe,3,#[qU,4,#[Q3,17,pv 0,T.qK,T.g_Going_look.h,jK,hr.mono (),T.g_Going_look.b,.nil,qB,_],_]]]]]]],?_⟩
 try dsimp only [cxOf,Cx.nox]
 refine⟨0,1,0,?_⟩;have fl:∀(z:Str) (H:Hp) (l:o3),z.length<=100->H l=none->Is (upd H l (.tup [.str "fault",.str z])) (flt z) (.ref l):=λz H l hz hl=>Is.new (ds:= [.str "fault",.str z]) ⟨_,0,YQ (by decide),_,0,YQ (by omega),1⟩ hl
 have ac:fs.length<1000:=by have:=f.len;omega
 have put:∀(z:Str) (t:o3) (H':Hp),z.length<=100->Same H H'->H' t=none->((d= .non->z="lack")/\(d≠ .non->z="rule"/\QZ d=none))->Q .non (upd (upd H' t (.tup [.str "fault",.str z])) g.x (.ins a.qu dx (putF "end" (.ref t) fs))):=λz t H' hz s' ht hd=>by
  have s1:=s'.trans (qg ht (.tup [.str "fault",.str z]));obtain⟨m1,m2⟩:=wy (CM:=a.ql) (g:=g) (s:={st with en:=flt z}) (s1 _ _ e) (f.set_end (u:= .ref t)) (i.mono s1.tk) (j.mono s1.tk) (by show Z6 _ _ _ _ st.run;rw [U];exact hR) (fl z H' t hz ht)
  refine k _ _ ⟨λb o h n=>m2.kept b o (s1 b o h) n,s1.tk.trans m2.tk⟩ m1 ⟨1,1,λh=>⟨U,by rw [hd.1 h]⟩,λh _=>⟨U,by rw [(hd.2 h).1]⟩,λrs h=> ?_⟩
  by_cases c:d= .non
  ·rw [c] at h;cases h
  ·rw [(hd.2 c).2] at h;cases h
 by_cases c:d= .non
 ·subst c;cases(show v= .non from hv)
  refine iteB (uc rfl) ⟨(sml rfl),λt ht=> ?_⟩;refine⟨0,g.x,_,dx,fs,1,(qg ht _) _ _ e,T.qK,T.QP,ac,?_⟩;exact put "lack" t H (by decide) (Same.refl _) ht ⟨λ_=>rfl,λh=>absurd rfl h⟩
 ·refine iteN (ue (Xp hv c)) ?_;refine⟨0,v,d,1,hv,λH1 s1=>⟨0,?_⟩⟩;cases hd:QZ d with
  |none=>
   refine iteT ⟨(sml rfl),λt ht=> ?_⟩;refine⟨0,g.x,_,dx,fs,1,(qg ht _) _ _ (s1 _ _ e),T.qK,T.QP,ac,?_⟩;exact put "rule" t H1 (by decide) s1 ht ⟨λh=>absurd h c,λ_=>⟨1,hd⟩⟩
  |some rs=>
   refine iteF ?_;obtain⟨ed,ad⟩:=read_rule hd;have e1:=s1 _ _ e;refine⟨0,g.x,_,dx,fs,0,e1,T.qK,T.xp,f.zG,g.o,ae,af,1,s1 _ _ ho,ag,0,0,g.x,_,dx,fs,0,e1,T.qK,T.yH,f.XO,g.o,v,rs,g.n,1,by rw [<-ed];exact hv.mono s1.tk,ad,hn,λmc H2 s2 nx nb ng ah ak hM=> ?_⟩
   have e2:=s2 _ _ e1;have aa:=s1.trans s2;refine⟨0,g.x,_,dx,fs,1,e2,T.qK,T.qN,ac,?_⟩;have al:mc.x≠g.x:=(qj e1 nx).symm;obtain⟨m1,m2⟩:=wy (C:=a.qu) (CM:=a.ql) (g:=g) (s:={st with run:=some (mc,R0 rs g.n)}) e2 (f.set_rule_run (u:= .ref mc.x)) (i.mono aa.tk) (j.mono aa.tk) ⟨1,al,hM⟩ (l.mono aa.tk)
   obtain⟨am,ao,_,_,_,_,e3,f3,_⟩:=id m1;refine⟨0,g.x,am,ao,1,e3,f3.meth _ (by decide+kernel),g,_,mc,R0 rs g.n,1,m1,1,R0_th ad,λH3 v3 G3=>k H3 _ ⟨λb o h n=>v3.kept b o (m2.kept b o (aa b o h) n) n,(aa.tk.trans m2.tk).trans v3.tk⟩ G3 ?_⟩
   unfold lookS;refine⟨by split<;>rfl,by split<;>rfl,λh=>absurd h c,(λ_ h=>by rw [hd] at h;cases h),λap h=> ?_⟩
   rw [hd] at h;cases h;refine⟨mc,s1.free nx,s1.free nb,s1.free ng,ah,ak,by split<;>rfl,?_⟩
   split<;>rfl
def Zv (C CM:o3):Sp:=λvs H Q _=>∃(g:Gc) (s:Gs),vs= [.ref g.x]/\GoAt C CM H g s/\
 ((s.run=none/\∃z,s.mb= .str z/\∀v H',Same H H'->Is H' (.tup [.str "rule",.str z]) v->Q v H')∨
  ∃mc r d,s.run=some (mc,r)/\r.th= .tup [.str "asks",d]/\∀v,Is H d v->Q v H)
noncomputable def runG:om (Mc×Rn)->oj D
 |none=> []
 |some (_,r)=>r.gs
noncomputable def fullD (s:Gs):D:= .tup [.tup (s.ra++runG s.run),s.en]
def sp_full (C CM:o3):Sp:=λvs H Q _=>∃(g:Gc) (s:Gs),vs= [.ref g.x]/\GoAt C CM H g s/\s.ra.length+(runG s.run).length<=1000/\∀v H',Same H H'->Is H' (fullD s) v->Q v H'
theorem catG_is {K:o0}{H:Hp}{xs ys:oj D}{v u:V}{Q:VK}(O:Is H (.tup xs) v)(U:Is H (.tup ys) u)(hl:xs.length+ys.length<=1000)(k:∀p H',Same H H'->Is H' (.tup (xs++ys)) p->Q p H'):rCatG K v u H Q:=by
 obtain⟨a,vs,rfl,ha,ia⟩:=(show∃a vs,v= .ref a/\H a=some (.tup vs)/\L2.IsL H xs vs from O)
 obtain⟨b,us,rfl,hb,ib⟩:=(show∃a vs,u= .ref a/\H a=some (.tup vs)/\L2.IsL H ys vs from U)
 have la:=ia.length;have lb:=ib.length;have hs:=uA;refine⟨a,b,vs,us,1,1,SqT.of ha,SqT.of hb,by omega,λe=> ?_,λ_ e=> ?_,λ_ _ p hp=> ?_⟩
 ·have:xs= []:=List.length_eq_zero_iff.mp (by rw [e] at la;simpa using la.symm)
  rw [this] at k;exact k _ H (Same.refl _) U
 ·have:ys= []:=List.length_eq_zero_iff.mp (by rw [e] at lb;simpa using lb.symm)
  rw [this,vR] at k;exact k _ H (Same.refl _) O
 ·have n:=qg hp (.tup (vs++us));exact k _ _ n ⟨p,0,qf,(ia.append ib).mono n.tk⟩
theorem ok_wanted (T:Tx K mg a):FnOk P w K mg base CX0 2 a.Ju a.Jv ["self"] (Zv a.qu a.ql):=by
 have Y1:=ok_now (P:=P) (w:=w) (base:=base) T;refine T.g_Going_wanted.F.ok ZE () (λ_ _ _ _ H _ Q E hr h=> ?_)
 obtain⟨g,st,rfl,hG,h⟩:=h;have hs:=uA;obtain⟨dx,fs,mv,av,rv,ev,e,f,i,j,U,l⟩:=id hG;refine⟨_,#[qc,5,#[qI,8,#[qr,8,yT,#[qG,5,pv 0,rfl],qQ,qz _],#[qe,3,#[qq,4,#[qF,5,#[qb,5,qm,#[qb,5,#[qG,5,pv 0,rfl],qd,_],_]]]],qw],#[qe,3,#[qq,4,#[qL,7,Jt,#[Q3,17,#[qG,5,pv 0,rfl],T.qp,T.g_Machine_now.h,Y1,hr.mono (),T.g_Machine_now.b,.nil,qB,_],qk,(λ_ _=>rfl)]]]],?_⟩
 try dsimp only [cxOf,Cx.nox]
 refine⟨0,g.x,_,dx,fs,0,e,T.qK,T.qN,f.Qk,1,0,?_⟩;rcases h with⟨O,z,hz,k⟩|⟨mc,r,d,O,aa,k⟩
 ·rw [O] at U;cases(show rv= .non from U)
  rw [hz] at i;obtain⟨rfl,hl⟩:=(show mv= .str z/\z.length<=sizeLine from i)
  refine iteB (uc rfl) ⟨0,g.x,_,dx,fs,0,e,T.qK,T.yg,f.Yi,(sml rfl),λt ht=> ?_⟩;exact k _ _ (qg ht _) (Is.new ⟨_,0,YQ (by decide),_,0,⟨1,hl⟩,1⟩ ht)
 ·rw [O] at U;obtain⟨rfl,hn,hM⟩:=U;obtain⟨dm,fm,ad,ru,tv,gv,em,ac,i1,i2,i3,i4,i5,i6⟩:=id hM;refine iteN (ue (λz=>by cases z)) ?_
  refine⟨0,g.x,_,dx,fs,0,e,T.qK,T.qN,f.Qk,mc.x,dm,fm,1,em,ac.meth _ (by decide+kernel),mc,r,1,hM,λv hv=> ?_⟩
  rw [aa] at hv;exact .inr (.inl (JO (i:=1) (d:=d) hv (QW (j:=1) rfl) λq hq=>k q hq))
theorem ok_full (T:Tx K mg a):FnOk P w K mg base CX0 2 a.X8 a.XM ["self"] (sp_full a.qu a.ql):=by
 have ZB:=ok_asks (P:=P) (w:=w) (base:=base) T;refine T.g_Going_full.F.ok xS () (λ_ _ _ _ H _ Q E hr h=> ?_)
 obtain⟨g,st,rfl,hG,hl,k⟩:=h;have hs:=uA;obtain⟨dx,fs,mv,av,rv,ev,e,f,i,j,hR,l⟩:=id hG;refine⟨_,#[qc,5,#[qC,2,(1),4,xS.nd,rfl,Or.inl rfl,#[Q2,8,#[qr,8,yT,#[qG,5,pv 0,rfl],qQ,qz _],#[qF,5,qd],#[Q3,17,#[qG,5,pv 0,rfl],T.qp,T.g_Machine_asked.h,ZB,hr.mono (),T.g_Machine_asked.b,.nil,qB,_]],_,_],#[qe,3,#[qq,4,#[qF,5,#[qb,5,#[qZ,8,zO,#[qG,5,pv 0,rfl],pv 1],#[qb,5,#[qG,5,pv 0,rfl],qd,_],_]]]]],?_⟩
 try dsimp only [cxOf,Cx.nox]
 have fin:∀(v:V) (H1:Hp),Same H H1->Is H1 (.tup (runG st.run)) v->tFld K (tVar 0) "rule_asks" [some (.ref g.x),some v] H1 λx H2=>tVar 1 [some (.ref g.x),some v] H2 λy H3=>rCatG K x y H3 λz H4=>tFld K (tVar 0) "end" [some (.ref g.x),some v] H4 λu H5=> [z,u].length<=sizeLine/\∀p,H5 p=none->Q (.ref p) (upd H5 p (.tup [z,u])):=λv H1 s1 hv=>by
  refine⟨0,g.x,_,dx,fs,0,s1 _ _ e,T.qK,T.yu,f.yz,0,?_⟩;refine catG_is (j.mono s1.tk) hv hl λz H4 s4 i4=> ?_;have U:=s1.trans s4;refine⟨0,g.x,_,dx,fs,0,U _ _ e,T.qK,T.QP,f.f_end,(sml rfl),λp hp=> ?_⟩;have n:=qg hp (.tup [z,ev]);exact k _ _ (U.trans n) (Is.new ⟨_,0,i4,_,0,l.mono U.tk,1⟩ hp)
 refine⟨0,g.x,_,dx,fs,0,e,T.qK,T.qN,f.Qk,1,0,?_⟩;cases O:st.run with
 |none=>
  rw [O] at hR fin;cases(show rv= .non from hR)
  refine iteB (uc rfl) ⟨(sml rfl),λt ht=> ?_⟩;exact fin _ _ (qg ht _) (Is.new (ds:= []) rfl ht)
 |some p=>
  obtain⟨mc,r⟩:=p;rw [O] at hR fin;obtain⟨rfl,hn,hM⟩:=hR;obtain⟨dm,fm,ac,ru,tv,gv,em,aa,i1,i2,i3,i4,i5,i6⟩:=id hM;refine iteN (ue (λz=>by cases z)) ?_
  refine⟨0,g.x,_,dx,fs,0,e,T.qK,T.qN,f.Qk,mc.x,dm,fm,1,em,aa.meth _ (by decide+kernel),mc,r,1,hM,λv H1 s1 hv=> ?_⟩
  exact fin v H1 s1 hv
structure Gw (g:Gc)(o:om (Mc×Rn))(H H':Hp):Prop where
 kept:∀b ob,H b=some ob->b≠g.x->(∀mc r,o=some (mc,r)->b≠mc.x/\b≠mc.db/\b≠mc.dg)->H' b=some ob
 tk:Tk H H'
def zu (C CM CO ba:o3):Sp:=λvs H Q _=>∃(g:Gc) (s:Gs) (v:V) (d:D),vs= [.ref g.x,v]/\GoAt C CM H g s/\nm g.n=true/\Is H d v/\g.o≠g.x/\(∃dx fs,H g.o=some (.ins CO dx fs)/\fs.lookup ("runner":Str)=none)/\
 ((s.run=none/\∃z,s.mb= .str z/\∀H' s',Gw g s.run H H'->GoAt C CM H' g s'->BegOk H g d {s with ra:= [.tup [.tup [.str "rule",.str z],d]]} s'->Q .non H')∨
  ∃mc r u q,s.run=some (mc,r)/\mc.own=g.n/\QY mc.rs/\RnOk mc.rs r/\r.th= .tup [.str "asks",.tup [.str u,q]]/\ansB u d=true/\
   ∀H',Gw g s.run H H'->GoAt C CM H' g (lookS {s with run:=some (mc,ansS mc.rs mc.own r d)} (ansS mc.rs mc.own r d))->Q .non H')
theorem go_mv {C CM:o3}{H H':Hp}{g:Gc}{s:Gs}{mc:Mc}{r O:Rn}(h:GoAt C CM H g s)(hr:s.run=some (mc,r))(v:Mv mc H H')(hM:yI CM H' mc O):GoAt C CM H' g {s with run:=some (mc,O)}:=by
 obtain⟨dx,fs,mv,av,rv,ev,e,f,i,j,k,l⟩:=h;rw [hr] at k;obtain⟨rfl,hn,hm⟩:=k;obtain⟨dm,fm,aa,ru,tv,gv,em,ac,i1,i2,i3,U,i5,i6⟩:=id hm;have n1:g.x≠mc.db:=(yW.ne e i3).symm;have n2:g.x≠mc.dg:=λz=>by rw [<-z,e] at U;cases U
 exact⟨dx,fs,mv,av,_,ev,v.kept _ _ e hn.symm n1 n2,f,i.mono v.tk,j.mono v.tk,⟨1,hn,hM⟩,l.mono v.tk⟩
theorem ok_gtake (T:Tx K mg a)(C:Fx K w mg g a):FnOk P w K mg base CX0 10 a.ze a.X5 ["self","answer"] (zu a.qu a.ql a.qo g.ba):=by
 have Y3:=ok_begin (P:=P) (w:=w) (base:=base) T C;have jK:=ok_look (P:=P) (w:=w) (base:=base) T;have zi:=ok_ans (P:=P) (w:=w) (base:=base) T C;refine T.g_Going_take.F.ok WR () (λ_ _ _ s H _ Q E hr h=> ?_)
 obtain⟨U,st,v,d,rfl,hG,hn,hv,ao,⟨ap,aq,ho,au⟩,h⟩:=h;have hs:=uA;obtain⟨dx,fs,mv,av,rv,ev,e,f,i,j,hR,l⟩:=id hG;refine⟨_,#[qe,3,#[qI,8,#[qr,8,yT,#[qG,5,pv 0,rfl],qQ,qz _],#[qc,5,#[qX,8,pv 0,#[qF,5,#[qb,5,#[qF,5,#[qb,5,#[qF,5,#[qb,5,qm,#[qb,5,#[qG,5,pv 0,rfl],qd,_],_]],#[qb,5,pv 1,qd,_],_]],qd,_]],rfl],#[qe,3,#[qU,4,#[Qr,20,pv 0,T.qK,T.g_Going_begin.h,Y3,hr.mono (),T.g_Going_begin.b,.nil,qB,#[qb,5,pv 1,qd,_],_,_,_],_]]],#[qc,5,#[qU,4,#[Qr,20,#[qG,5,pv 0,rfl],T.qp,T.g_Machine_answer.h,zi,hr.mono (),T.g_Machine_answer.b,.nil,qB,#[qb,5,pv 1,qd,_],_,_,_],_],#[qe,3,#[qU,4,#[Q3,17,pv 0,T.qK,T.g_Going_look.h,jK,hr.mono (),T.g_Going_look.b,.nil,qB,_],_]]]]],?_⟩
 try dsimp only [cxOf,Cx.nox]
 refine⟨0,U.x,_,dx,fs,0,e,T.qK,T.qN,f.Qk,1,0,?_⟩;rcases h with⟨O,z,hz,k⟩|⟨mc,r,u,q,O,aw,ae,af,ag,aa,k⟩
 ·rw [O] at hR;cases(show rv= .non from hR)
  refine iteB (uc rfl) ?_;rw [hz] at i;obtain⟨rfl,hl⟩:=(show mv= .str z/\z.length<=sizeLine from i)
  have ax:fs.length<1000:=by have:=f.len;omega
  refine⟨0,U.x,_,dx,fs,0,e,T.qK,T.yg,f.Yi,(sml rfl),λt1 ah=> ?_⟩;have m1:=qg ah (.tup [V.str "rule",V.str z]);have k1:Is (upd H t1 (.tup [V.str "rule",V.str z])) (.tup [.str "rule",.str z]) (.ref t1):=Is.new ⟨_,0,YQ (by decide),_,0,⟨1,hl⟩,1⟩ ah
  refine⟨0,(sml rfl),λt2 ak=> ?_⟩;have m2:=qg ak (.tup [V.ref t1,v]);have k2:=Is.new (ds:= [.tup [.str "rule",.str z],d]) ⟨_,0,k1,_,0,hv.mono m1.tk,1⟩ ak;refine⟨(sml rfl),λt3 al=> ?_⟩;have m3:=qg al (.tup [V.ref t2]);have k3:=Is.new (ds:= [.tup [.tup [.str "rule",.str z],d]]) ⟨_,0,k2,1⟩ al;have s3:=(m1.trans m2).trans m3;refine⟨0,U.x,_,dx,fs,1,s3 _ _ e,T.qK,T.yu,ax,?_⟩;have iz:Is H (.str z) (.str z):=⟨1,hl⟩;obtain⟨p1,p2⟩:=wy (C:=a.qu) (CM:=a.ql) (g:=U) (s:={st with ra:= [.tup [.tup [.str "rule",.str z],d]]}) (s3 _ _ e) (f.set_rule_asks (u:= .ref t3)) (by show Is _ st.mb _;rw [hz];exact iz.mono s3.tk) k3 (by show Z6 _ _ _ _ st.run;rw [O];rfl) (l.mono s3.tk)
  obtain⟨ac,ad,_,_,_,_,e3,f3,_⟩:=id p1;have am:=s3.tk.trans p2.tk;refine⟨0,U.x,ac,ad,1,e3,f3.meth _ (by decide+kernel),0,U,_,v,d,1,p1,O,hn,hv.mono am,⟨ap,aq,p2.kept _ _ (s3 _ _ ho) ao,au⟩,λH4 s4 v4 G4 b4=>k H4 s4 ⟨λb ob h n _=>v4.kept b ob (p2.kept b ob (s3 b ob h) n) n,am.trans v4.tk⟩ G4 ⟨b4.mb,b4.ra,b4.lack,b4.rule,λrs h=> ?_⟩⟩
  obtain⟨mc,c1,c2,c3,c4⟩:=b4.go rs h;have fr:∀b,upd (upd (upd (upd H t1 (.tup [V.str "rule",V.str z])) t2 (.tup [V.ref t1,v])) t3 (.tup [V.ref t2])) U.x (.ins a.qu dx (putF "rule_asks" (.ref t3) fs)) b=none->H b=none:=λb hb=>by
   cases hc:H b with
   |none=>rfl
   |some ob=>
    by_cases c:b=U.x
    ·rw [c,qf] at hb;cases hb
    ·rw [p2.kept b ob (s3 b ob hc) c] at hb;cases hb
  exact⟨mc,fr _ c1,fr _ c2,fr _ c3,c4⟩
 ·rw [O] at hR;obtain⟨rfl,aB,hM⟩:=hR;obtain⟨dm,fm,aC,ru,tv,gv,em,ay,i1,i2,i3,i4,i5,i6⟩:=id hM;refine iteN (ue (λz=>by cases z)) ?_
  have aA:mc.own.length<=100:=by rw [aw];have:=zq hn;omega
  refine⟨0,U.x,_,dx,fs,0,e,T.qK,T.qN,f.Qk,mc.x,dm,fm,1,em,ay.meth _ (by decide+kernel),0,mc,r,v,u,q,d,1,hM,af,ag,hv,ae,aA,aa,λH1 v1 M1=> ?_⟩
  ·have G1:=go_mv hG O v1 M1;obtain⟨ac,ad,_,_,_,_,e3,f3,_⟩:=id G1;have hok:=ansS_ok (own:=mc.own) ae af (by rw [ag];show decide (("asks":Str)="asks")=true;exact uc rfl) (ansB_ok aa)
   refine⟨0,U.x,ac,ad,1,e3,f3.meth _ (by decide+kernel),U,_,mc,0,G1,1,.inr hok.two,λH2 v2 G2=>k H2 ⟨λb ob h n1 n2=>v2.kept b ob (v1.kept b ob h (n2 mc r O).1 (n2 mc r O).2.1 (n2 mc r O).2.2) n1,v1.tk.trans v2.tk⟩ G2⟩
def gfs (n:Str)(o t:o3):oj (Str×V):= [("name",.str n),("order",.ref o),("made_by",.non),("rule_asks",.ref t),("rule_run",.non),("end",.non)]
theorem gfs_ok (n:Str)(o t:o3):GFl (gfs n o t) (.str n) (.ref o) .non (.ref t) .non .non:=by
 refine⟨1,1,1,1,1,1,?_,(by show 6<=20;decide)⟩
 intro m hm;simp only [GMT,uB,uC,uM] at hm;rcases hm with rfl|rfl|rfl|rfl|rfl<;>rfl
def s0G:Gs:=⟨.non,[],none,.non⟩
def sp_ginit (C CM CO:o3):Sp:=λvs H Q _=>∃(x dx o:o3) (n k:Str) (sv:V) (e:D),vs= [.ref x,.str n,sv,.ref o]/\H x=some (.ins C dx [])/\Is H (.tup [.str k,e]) sv/\nm n=true/\o≠x/\(∃dx fs,H o=some (.ins CO dx fs)/\fs.lookup ("runner":Str)=none)/\
 ∀H' s',(∀b ob,H b=some ob->b≠x->H' b=some ob)->Tk H H'->GoAt C CM H' ⟨x,o,n⟩ s'->(k="made"->s'={s0G with mb:=e})->(k≠"made"->BegOk H ⟨x,o,n⟩ e s0G s')->Q .non H'
theorem ok_ginit (T:Tx K mg a)(C:Fx K w mg g a):FnOk P w K mg base CX0 10 a.jZ a.X2 ["self","name","source","order"] (sp_ginit a.qu a.ql a.qo):=by
 have Y3:=ok_begin (P:=P) (w:=w) (base:=base) T C;refine T.g_Going_init.F.ok W2 () (λ_ _ _ s H _ Q E hr h=> ?_)
 obtain⟨x,dx,o,n,k,sv,d,rfl,hx,aa,hn,nox,⟨ac,ad,ho,ae⟩,q⟩:=h;have hs:=uA;refine⟨_,#[qc,5,#[qX,8,pv 0,pv 1,rfl],#[qc,5,#[qX,8,pv 0,pv 3,rfl],#[qc,5,#[qX,8,pv 0,qQ,rfl],#[qc,5,#[qX,8,pv 0,#[qF,5,qd],rfl],#[qc,5,#[qX,8,pv 0,qQ,rfl],#[qc,5,#[qX,8,pv 0,qQ,rfl],#[qe,3,#[qI,8,#[qr,8,QM,#[qL,7,qJ,pv 2,qk,(λ_ _=>rfl)],qm,qz _],#[qe,3,#[qX,8,pv 0,#[qL,7,qJ,pv 2,qk,(λ_ _=>rfl)],rfl]],#[qe,3,#[qU,4,#[Qr,20,pv 0,T.qK,T.g_Going_begin.h,Y3,hr.mono (),T.g_Going_begin.b,.nil,qB,#[qb,5,#[qL,7,qJ,pv 2,qk,(λ_ _=>rfl)],qd,_],_,_,_],_]]]]]]]]]],?_⟩
 try dsimp only [cxOf,Cx.nox]
 refine⟨0,0,x,_,dx,0,hx,T.qK,T.yH,by decide,?_⟩
 refine⟨0,0,x,_,dx,0,qf,T.qK,T.xp,by show 1<1000;decide,?_⟩
 refine⟨0,x,_,dx,0,qf,T.qK,T.yg,by show 2<1000;decide,?_⟩
 refine⟨(sml rfl),λt ht=> ?_⟩;have nxt:x≠t:=qj qf ht;refine⟨0,x,_,dx,0,(qh nxt).trans qf,T.qK,T.yu,by show 3<1000;decide,?_⟩
 refine⟨0,x,_,dx,0,qf,T.qK,T.qN,by show 4<1000;decide,?_⟩
 refine⟨0,x,_,dx,0,qf,T.qK,T.QP,by show 5<1000;decide,?_⟩
 have af:H t=none:=by
  rw [qh nxt.symm,qh nxt.symm,qh nxt.symm] at ht;exact ht
 have ag:Tk H (upd (upd (upd H x (.ins a.qu dx (putF "name" (V.str n) []))) x (.ins a.qu dx (putF "order" (V.ref o) (putF "name" (V.str n) [])))) x (.ins a.qu dx (putF "made_by" V.non (putF "order" (V.ref o) (putF "name" (V.str n) []))))):=((Tk.updI hx).trans (Tk.updI qf)).trans (Tk.updI qf);have ah:=ag.trans (qg ht (.tup ([]:oj V))).tk;have O:=((ah.trans (Tk.updI (C':=a.qu) (dx':=dx) (ys:=putF "rule_asks" (.ref t) (putF "made_by" V.non (putF "order" (V.ref o) (putF "name" (V.str n) [])))) ((qh nxt).trans qf))).trans (Tk.updI (C':=a.qu) (dx':=dx) (ys:=putF "rule_run" V.non (putF "rule_asks" (.ref t) (putF "made_by" V.non (putF "order" (V.ref o) (putF "name" (V.str n) []))))) qf)).trans (Tk.updI (C':=a.qu) (dx':=dx) (ys:=putF "end" V.non (putF "rule_run" V.non (putF "rule_asks" (.ref t) (putF "made_by" V.non (putF "order" (V.ref o) (putF "name" (V.str n) [])))))) qf);have ak:putF "end" V.non (putF "rule_run" V.non (putF "rule_asks" (.ref t) (putF "made_by" V.non (putF "order" (V.ref o) (putF "name" (V.str n) [])))))=gfs n o t:=rfl;have kp:∀b ob,H b=some ob->b≠x->(upd (upd (upd (upd (upd (upd (upd H x (.ins a.qu dx (putF "name" (V.str n) []))) x (.ins a.qu dx (putF "order" (V.ref o) (putF "name" (V.str n) [])))) x (.ins a.qu dx (putF "made_by" V.non (putF "order" (V.ref o) (putF "name" (V.str n) []))))) t (.tup ([]:oj V))) x (.ins a.qu dx (putF "rule_asks" (V.ref t) (putF "made_by" V.non (putF "order" (V.ref o) (putF "name" (V.str n) [])))))) x (.ins a.qu dx (putF "rule_run" V.non (putF "rule_asks" (V.ref t) (putF "made_by" V.non (putF "order" (V.ref o) (putF "name" (V.str n) []))))))) x (.ins a.qu dx (putF "end" V.non (putF "rule_run" V.non (putF "rule_asks" (V.ref t) (putF "made_by" V.non (putF "order" (V.ref o) (putF "name" (V.str n) [])))))))) b=some ob:=λb ob h nb=>by
  have nt:b≠t:=qj h af;rw [qh nb,qh nb,qh nb,qh nt,qh nb,qh nb,qh nb];exact h
 have U:(upd (upd (upd (upd (upd (upd (upd H x (.ins a.qu dx (putF "name" (V.str n) []))) x (.ins a.qu dx (putF "order" (V.ref o) (putF "name" (V.str n) [])))) x (.ins a.qu dx (putF "made_by" V.non (putF "order" (V.ref o) (putF "name" (V.str n) []))))) t (.tup ([]:oj V))) x (.ins a.qu dx (putF "rule_asks" (V.ref t) (putF "made_by" V.non (putF "order" (V.ref o) (putF "name" (V.str n) [])))))) x (.ins a.qu dx (putF "rule_run" V.non (putF "rule_asks" (V.ref t) (putF "made_by" V.non (putF "order" (V.ref o) (putF "name" (V.str n) []))))))) x (.ins a.qu dx (putF "end" V.non (putF "rule_run" V.non (putF "rule_asks" (V.ref t) (putF "made_by" V.non (putF "order" (V.ref o) (putF "name" (V.str n) [])))))))) x=some (.ins a.qu dx (gfs n o t)):=by rw [qf,ak]
 have eT:(upd (upd (upd (upd (upd (upd (upd H x (.ins a.qu dx (putF "name" (V.str n) []))) x (.ins a.qu dx (putF "order" (V.ref o) (putF "name" (V.str n) [])))) x (.ins a.qu dx (putF "made_by" V.non (putF "order" (V.ref o) (putF "name" (V.str n) []))))) t (.tup ([]:oj V))) x (.ins a.qu dx (putF "rule_asks" (V.ref t) (putF "made_by" V.non (putF "order" (V.ref o) (putF "name" (V.str n) [])))))) x (.ins a.qu dx (putF "rule_run" V.non (putF "rule_asks" (V.ref t) (putF "made_by" V.non (putF "order" (V.ref o) (putF "name" (V.str n) []))))))) x (.ins a.qu dx (putF "end" V.non (putF "rule_run" V.non (putF "rule_asks" (V.ref t) (putF "made_by" V.non (putF "order" (V.ref o) (putF "name" (V.str n) [])))))))) t=some (.tup ([]:oj V)):=by rw [qh nxt.symm,qh nxt.symm,qh nxt.symm,qf]
 generalize upd (upd (upd (upd (upd (upd (upd H x (.ins a.qu dx (putF "name" (V.str n) []))) x (.ins a.qu dx (putF "order" (V.ref o) (putF "name" (V.str n) [])))) x (.ins a.qu dx (putF "made_by" V.non (putF "order" (V.ref o) (putF "name" (V.str n) []))))) t (.tup ([]:oj V))) x (.ins a.qu dx (putF "rule_asks" (V.ref t) (putF "made_by" V.non (putF "order" (V.ref o) (putF "name" (V.str n) [])))))) x (.ins a.qu dx (putF "rule_run" V.non (putF "rule_asks" (V.ref t) (putF "made_by" V.non (putF "order" (V.ref o) (putF "name" (V.str n) []))))))) x (.ins a.qu dx (putF "end" V.non (putF "rule_run" V.non (putF "rule_asks" (V.ref t) (putF "made_by" V.non (putF "order" (V.ref o) (putF "name" (V.str n) [])))))))=H7 at O kp U eT⊢;have i0:Is H7 (.tup []) (.ref t):=⟨t,[],1,eT,1⟩;have G0:GoAt a.qu a.ql H7 ⟨x,o,n⟩ s0G:=⟨dx,_,_,_,_,_,U,gfs_ok n o t,1,i0,1,1⟩;have al:=aa.mono O;obtain⟨p,ws,rfl,hp,w1,r1,rfl,⟨rfl,am⟩,w2,r2,rfl,h2,h3⟩:=al;cases(show r2= [] from h3)
 refine⟨0,p,_,_,0,1,SqT.of hp,1,1,0,?_⟩;by_cases ck:k="made"
 ·refine iteB (uc (by rw [ck])) ⟨0,p,_,_,0,1,SqT.of hp,1,0,x,_,dx,0,U,T.qK,T.yg,(by show 6<1000;decide),?_⟩
  obtain⟨p1,p2⟩:=wy (C:=a.qu) (CM:=a.ql) (g:=⟨x,o,n⟩) (s:={s0G with mb:=d}) U ((gfs_ok n o t).set_made_by (u:=w2)) h2 i0 rfl rfl
  exact q _ _ (λb ob h nb=>p2.kept b ob (kp b ob h nb) nb) (O.trans p2.tk) p1 (λ_=>rfl) λz=>absurd ck z
 ·refine iteN (ue (λz=>ck (V.str.inj z))) ?_;refine⟨0,x,dx,0,U,(gfs_ok n o t).meth _ (by decide+kernel),0,p,_,_,0,1,SqT.of hp,1,⟨x,o,n⟩,s0G,w2,d,1,G0,1,hn,h2,⟨ac,ad,kp _ _ ho nox,ae⟩,λH8 s8 v8 G8 b8=>q H8 s8 (λb ob h nb=>v8.kept b ob (kp b ob h nb) nb) (O.trans v8.tk) G8 (λz=>absurd z ck) λ_=>⟨b8.mb,b8.ra,b8.lack,b8.rule,λrs h=> ?_⟩⟩
  obtain⟨mc,c1,c2,c3,c4⟩:=b8.go rs h;have fr:∀b,H7 b=none->H b=none:=λb hb=>by
   cases hc:H b with
   |none=>rfl
   |some ob=>
    by_cases c:b=x
    ·rw [c,U] at hb;cases hb
    ·rw [kp b ob hc c] at hb;cases hb
  exact⟨mc,fr _ c1,fr _ c2,fr _ c3,c4⟩
def ZM:D->D
 | .non=> .tup [.str "lack"]
 | .tup [.str k,e]=>if k="leaf" then .tup [.str "value",e] else .non
 |_=> .non
def J8:D->D
 | .tup [.str k,e]=>if k="said" then .tup [.str "value",e] else .tup [.str k,e]
 |d=>d
def sp_once:Sp:=λvs H Q _=>∃(v:V) (d:D),vs= [v]/\Is H d v/\(d= .non∨∃k e,d= .tup [.str k,e])/\∀u H',Same H H'->Is H' (ZM d) u->Q u H'
def sp_ansby:Sp:=λvs H Q _=>∃(v:V) (k:Str) (e:D),vs= [v]/\Is H (.tup [.str k,e]) v/\∀u H',Same H H'->Is H' (J8 (.tup [.str k,e])) u->Q u H'
theorem ok_ansby (T:Tx K mg a):FnOk P w K mg base CX0 1 a.ZC a.Zl ["end"] sp_ansby:=by
 refine T.g_answer_by.F.ok sc_answer_by () (λ_ _ _ _ H _ Q E hr h=> ?_)
 obtain⟨v,k,e,rfl,U,q⟩:=h;have hs:=uA;have O:=U;obtain⟨p,ws,rfl,hp,w1,r1,rfl,⟨rfl,aa⟩,w2,r2,rfl,h2,h3⟩:=U;cases(show r2= [] from h3)
 refine⟨_,#[qe,3,#[qq,4,#[Q2,8,#[qr,8,QM,#[qL,7,qJ,pv 0,qk,(λ_ _=>rfl)],qm,qz _],#[qF,5,#[qb,5,qm,#[qb,5,#[qL,7,qJ,pv 0,qk,(λ_ _=>rfl)],qd,_],_]],pv 0]]],?_⟩
 try dsimp only [cxOf,Cx.nox]
 refine⟨0,p,_,_,0,1,SqT.of hp,1,1,0,?_⟩;by_cases c:k="said"
 ·refine iteB (uc (by rw [c])) ⟨0,p,_,_,0,1,SqT.of hp,1,(sml rfl),λt ht=> ?_⟩
  refine q _ _ (qg ht _) ?_;unfold J8;dsimp only;rw [if_pos c];exact Is.new ⟨_,0,YQ (by decide),_,0,h2,1⟩ ht
 ·refine iteN (ue (λz=>c (V.str.inj z))) ⟨0,q _ H (Same.refl _) ?_⟩;unfold J8;dsimp only;rw [if_neg c];exact O
theorem ok_once (T:Tx K mg a):FnOk P w K mg base CX0 1 a.ja a.Y8 ["source"] sp_once:=by
 refine T.g_answer_at_once.F.ok Xu () (λ_ _ _ _ H _ Q E hr h=> ?_)
 obtain⟨v,d,rfl,U,hd,q⟩:=h;have hs:=uA;refine⟨_,#[qc,5,#[qI,8,#[qr,8,yT,pv 0,qQ,qz _],#[qe,3,#[qq,4,#[qF,5,#[qb,5,qm,qd,_]]]],qw],#[qe,3,#[qq,4,#[Q2,8,#[qr,8,QM,#[qL,7,qJ,pv 0,qk,(λ_ _=>rfl)],qm,qz _],#[qF,5,#[qb,5,qm,#[qb,5,#[qL,7,qJ,pv 0,qk,(λ_ _=>rfl)],qd,_],_]],qQ]]]],?_⟩
 try dsimp only [cxOf,Cx.nox]
 refine⟨0,1,0,?_⟩;rcases hd with rfl|⟨k,e,rfl⟩
 ·cases(show v= .non from U)
  refine iteB (uc rfl) ⟨(sml rfl),λt O=> ?_⟩;exact q _ _ (qg O _) (Is.new ⟨_,0,YQ (by decide),1⟩ O)
 ·obtain⟨p,ws,rfl,hp,w1,r1,rfl,⟨rfl,aa⟩,w2,r2,rfl,h2,h3⟩:=U;cases(show r2= [] from h3)
  refine iteN (ue (λz=>by cases z)) ?_
  refine⟨0,p,_,_,0,1,SqT.of hp,1,1,0,?_⟩;by_cases c:k="leaf"
  ·refine iteB (uc (by rw [c])) ⟨0,p,_,_,0,1,SqT.of hp,1,(sml rfl),λt O=> ?_⟩
   refine q _ _ (qg O _) ?_;unfold ZM;dsimp only;rw [if_pos c];exact Is.new ⟨_,0,YQ (by decide),_,0,h2,1⟩ O
  ·refine iteN (ue (λz=>c (V.str.inj z))) (q _ H (Same.refl _) ?_);unfold ZM;dsimp only;rw [if_neg c];exact(rfl:V.non=V.non)
end
structure Sy where
 G:Type
 fin:G->Bool
 want:G->om Str
 own:G->G
 tk:G->om D->G
 stuck:G->Str->G
 said:G->om D
 g0:Str->om G
 once:Str->om D
 lft:G->Nat
 M:Nat
 ns:oj Str
structure Sy.Ok (Y:Sy):Prop where
 fs:∀g m,Y.fin (Y.stuck g m)=true
 ss:∀g m,Y.said (Y.stuck g m)=none
 sf:∀g v,Y.said g=some v->Y.fin g=true
 lo:∀g,Y.fin g=false->Y.want g=none->Y.lft (Y.own g)<Y.lft g
 lt:∀g m a,Y.fin g=false->Y.want g=some m->Y.lft (Y.tk g a)<Y.lft g
 lk:∀g m,Y.fin g=false->Y.lft (Y.stuck g m)<Y.lft g
 l0:∀m g,Y.g0 m=some g->Y.lft g<=Y.M
 gn:∀m g,Y.g0 m=some g->m∈Y.ns
namespace Sy
variable {Y:Sy}
abbrev Orc:=Str->om (om D)
noncomputable def step (Y:Sy)(f:Orc)(g:Y.G):Y.G:=if Y.fin g=true then g else match Y.want g with
 |none=>Y.own g
 |some m=>match f m with
  |some a=>Y.tk g a
  |none=>Y.stuck g m
noncomputable def it (Y:Sy)(f:Orc):Nat->Y.G->Y.G
 |0,g=>g
 |k+1,g=>it Y f k (step Y f g)
theorem zw {f:Orc}{g:Y.G}(h:Y.fin g=true):step Y f g=g:=by unfold step;rw [if_pos h]
theorem ZJ {f:Orc}{g:Y.G}(h:Y.fin g=true):∀k,it Y f k g=g
 |0=>rfl
 |k+1=>by show it Y f k (step Y f g)=g;rw [zw h];exact ZJ h k
theorem wP {f:Orc}:∀(k j:Nat) (g:Y.G),it Y f (k+j) g=it Y f j (it Y f k g)
 |0,j,g=>by rw [Nat.zero_add];rfl
 |k+1,j,g=>by
  rw [Nat.add_right_comm];show it Y f (k+j) (step Y f g)=_;rw [wP k j]
  rfl
theorem it_snoc {f:Orc}(k:Nat)(g:Y.G):it Y f (k+1) g=step Y f (it Y f k g):=wP k 1 g
theorem step_lft (h:Y.Ok){f:Orc}{g:Y.G}(O:Y.fin g=false):Y.lft (step Y f g)<Y.lft g:=by
 unfold step;rw [O,if_neg u8];cases U:Y.want g with
 |none=>exact h.lo g O U
 |some m=>
  show Y.lft (match f m with|some a=>Y.tk g a|none=>Y.stuck g m)<_
  cases f m with
  |some a=>exact h.lt g m a O U
  |none=>exact h.lk g m O
theorem it_end (h:Y.Ok){f:Orc}:∀(k:Nat) (g:Y.G),Y.lft g<=k->Y.fin (it Y f k g)=true
 |0,g,hl=>by
  show Y.fin g=true;cases O:Y.fin g with
  |true=>rfl
  |false=>have:=step_lft (f:=f) h O;omega
 |k+1,g,hl=>by
  show Y.fin (it Y f k (step Y f g))=true;cases O:Y.fin g with
  |true=>rw [zw O,ZJ O];exact O
  |false=>exact it_end h k _ (by have:=step_lft (f:=f) h O;omega)
theorem it_one {f:Orc}{g:Y.G}{k j:Nat}(O:Y.fin (it Y f k g)=true)(U:Y.fin (it Y f j g)=true):it Y f k g=it Y f j g:=by
 rcases Nat.le_total k j with h|h
 ·obtain⟨d,rfl⟩:=Nat.le.dest h;rw [wP,ZJ O]
 ·obtain⟨d,rfl⟩:=Nat.le.dest h;rw [wP,ZJ U]
theorem it_mono (h:Y.Ok){f f':Orc}(hm:∀m a,f m=some a->f' m=some a):∀(k:Nat) (g:Y.G),it Y f' k g=it Y f k g∨((∀j,it Y f j (it Y f k g)=it Y f k g)/\Y.said (it Y f k g)=none)
 |0,g=> .inl rfl
 |k+1,g=>by
  show it Y f' k (step Y f' g)=it Y f k (step Y f g)∨_;by_cases c:step Y f' g=step Y f g
  ·rw [c];exact it_mono h hm k _
  ·right;have U:Y.fin g=false:=by
    cases U:Y.fin g with
    |false=>rfl
    |true=>exact absurd (by rw [zw U,zw U]) c
   have e:∃m,step Y f g=Y.stuck g m:=by
    unfold step at c⊢;rw [U,if_neg u8] at c⊢;rw [if_neg u8] at c;cases hw:Y.want g with
    |none=>rw [hw] at c;exact absurd rfl c
    |some m=>
     rw [hw] at c;simp only at c⊢;cases O:f m with
     |none=>exact⟨m,1⟩
     |some a=>rw [O,hm m a O] at c;exact absurd rfl c
   obtain⟨m,e⟩:=e;have e2:it Y f (k+1) g=Y.stuck g m:=by
    show it Y f k (step Y f g)=_;rw [e];exact ZJ (h.fs g m) k
   rw [e2];exact⟨ZJ (h.fs g m),h.ss g m⟩
theorem it_said (h:Y.Ok){f f':Orc}(hm:∀m a,f m=some a->f' m=some a){k:Nat}{g:Y.G}{v:D}(O:Y.said (it Y f k g)=some v):it Y f' k g=it Y f k g:=by
 rcases it_mono h hm k g with e|⟨_,e⟩
 ·exact e
 ·rw [O] at e;cases e
noncomputable def Fh (Y:Sy):Nat->Orc
 |0,m=>match Y.g0 m with
  |none=>some (Y.once m)
  |some _=>none
 |h+1,m=>match Y.g0 m with
  |none=>some (Y.once m)
  |some g=>(Y.said (it Y (Fh Y h) Y.M g)).map some
theorem Fh_once {m:Str}(h:Y.g0 m=none):∀k,Fh Y k m=some (Y.once m)
 |0=>by simp only [Fh,h]
 |k+1=>by simp only [Fh,h]
theorem Fh_run {m:Str}{g:Y.G}(h:Y.g0 m=some g)(k:Nat):Fh Y (k+1) m=(Y.said (it Y (Fh Y k) Y.M g)).map some:=by simp only [Fh,h]
theorem Fh_zero {m:Str}{g:Y.G}(h:Y.g0 m=some g):Fh Y 0 m=none:=by simp only [Fh,h]
theorem Fh_succ (h:Y.Ok):∀(k:Nat) (m:Str) (a:om D),Fh Y k m=some a->Fh Y (k+1) m=some a
 |0,m,a,e=>by
  cases O:Y.g0 m with
  |none=>rw [Fh_once O] at e⊢;exact e
  |some g=>rw [Fh_zero O] at e;cases e
 |k+1,m,a,e=>by
  cases O:Y.g0 m with
  |none=>rw [Fh_once O] at e⊢;exact e
  |some g=>
   rw [Fh_run O] at e⊢;cases U:Y.said (it Y (Fh Y k) Y.M g) with
   |none=>rw [U] at e;cases e
   |some v=>
    rw [it_said h (Fh_succ h k) U];exact e
theorem Fh_le (h:Y.Ok){k j:Nat}(O:k<=j){m:Str}{a:om D}(e:Fh Y k m=some a):Fh Y j m=some a:=by
 obtain⟨d,rfl⟩:=Nat.le.dest O
 induction d with
 |zero=>exact e
 |succ d U=>exact Fh_succ h _ _ _ (U (by omega))
open Classical in
noncomputable def F (Y:Sy):Orc:=λm=>if h:∃a k,Fh Y k m=some a then some (choose h) else none
theorem F_iff (h:Y.Ok){m:Str}{a:om D}:F Y m=some a↔∃k,Fh Y k m=some a:=by
 unfold F;constructor
 ·intro e;by_cases c:∃a k,Fh Y k m=some a
  ·rw [dif_pos c] at e;have:=Classical.choose_spec c;rw [uE e] at this;exact this
  ·rw [dif_neg c] at e;cases e
 ·rintro⟨k,e⟩;have c:∃a k,Fh Y k m=some a:=⟨a,k,e⟩;rw [dif_pos c];obtain⟨j,e2⟩:=Classical.choose_spec c;have U:=Fh_le h (Nat.le_max_left k j) e;have O:=Fh_le h (Nat.le_max_right k j) e2;rw [U] at O;exact O.symm
theorem F_of (h:Y.Ok){k:Nat}{m:Str}{a:om D}(e:Fh Y k m=some a):F Y m=some a:=(F_iff h).mpr ⟨k,e⟩
theorem F_once (h:Y.Ok){m:Str}(O:Y.g0 m=none):F Y m=some (Y.once m):=F_of h (Fh_once O 0)
theorem step_near (h:Y.Ok)(g:Y.G):∃k,∀j,k<=j->step Y (Fh Y j) g=step Y (F Y) g:=by
 unfold step;by_cases U:Y.fin g=true
 ·exact⟨(0),λj _=>by rw [if_pos U,if_pos U]⟩
 ·cases hw:Y.want g with
  |none=>exact⟨(0),λj _=>rfl⟩
  |some m=>
   cases O:F Y m with
   |some a=>
    obtain⟨k,e⟩:=(F_iff h).mp O;exact⟨k,λj hj=>by simp only [Fh_le h hj e,O]⟩
   |none=>
    refine⟨(0),λj _=> ?_⟩;have:Fh Y j m=none:=by
     cases e:Fh Y j m with
     |none=>rfl
     |some a=>rw [F_of h e] at O;cases O
    simp only [this,O]
theorem it_near (h:Y.Ok):∀(n:Nat) (g:Y.G),∃k,∀j,k<=j->it Y (Fh Y j) n g=it Y (F Y) n g
 |0,g=>⟨(0),λ_ _=>rfl⟩
 |n+1,g=>by
  obtain⟨k1,h1⟩:=step_near h g;obtain⟨k2,h2⟩:=it_near h n (step Y (F Y) g);refine⟨max k1 k2,λj O=> ?_⟩;show it Y (Fh Y j) n (step Y (Fh Y j) g)=it Y (F Y) n (step Y (F Y) g);rw [h1 j (by omega),h2 j (by omega)]
theorem F_run (h:Y.Ok){m:Str}{g:Y.G}(U:Y.g0 m=some g):F Y m=(Y.said (it Y (F Y) Y.M g)).map some:=by
 cases hs:Y.said (it Y (F Y) Y.M g) with
 |some v=>
  obtain⟨k,e⟩:=it_near h Y.M g;refine F_of h (k:=k+1) ?_;rw [Fh_run U,e k (ug _),hs]
  rfl
 |none=>
  show F Y m=none;cases e:F Y m with
  |none=>rfl
  |some a=>
   obtain⟨k,e⟩:=(F_iff h).mp e;cases k with
   |zero=>rw [Fh_zero U] at e;cases e
   |succ k=>
    rw [Fh_run U] at e;cases O:Y.said (it Y (Fh Y k) Y.M g) with
    |none=>rw [O] at e;cases e
    |some v=>
     rw [<-it_said h (λm a q=>F_of h q) O,hs] at O;cases O
def Wt (Y:Sy)(n m:Str):Prop:=∃g k,Y.g0 n=some g/\Y.fin (it Y (F Y) k g)=false/\Y.want (it Y (F Y) k g)=some m
theorem wt_less (h:Y.Ok){n m:Str}(w:Wt Y n m){k:Nat}{a:om D}(e:Fh Y k n=some a):∃j b,j<k/\Fh Y j m=some b:=by
 obtain⟨g,i,hg,hf,hw⟩:=w;cases k with
 |zero=>rw [Fh_zero hg] at e;cases e
 |succ k=>
  refine⟨k,?_⟩;rw [Fh_run hg] at e;cases U:Y.said (it Y (Fh Y k) Y.M g) with
  |none=>rw [U] at e;cases e
  |some v=>
   have O:=h.sf _ _ U;have eM:=it_said h (f':=F Y) (λm a q=>F_of h q) U;rcases it_mono h (f:=Fh Y k) (f':=F Y) (λm a q=>F_of h q) i g with ei|⟨ei,es⟩
   ·rw [ei] at hf hw;cases hm:Fh Y k m with
    |some b=>exact⟨b,Nat.lt_succ_self k,1⟩
    |none=>
     have e1:it Y (Fh Y k) (i+1) g=Y.stuck (it Y (Fh Y k) i g) m:=by
      rw [it_snoc];unfold step;rw [hf,if_neg u8,hw];simp only [hm]
     have e2:Y.fin (it Y (Fh Y k) (i+1) g)=true:=by rw [e1];exact h.fs _ _
     rw [<-it_one e2 O,e1,h.ss] at U;cases U
   ·have aa:it Y (Fh Y k) (i+Y.M) g=it Y (Fh Y k) i g:=by rw [wP];exact ei _
    have e3:it Y (Fh Y k) (Y.M+i) g=it Y (Fh Y k) Y.M g:=by rw [wP];exact ZJ O i
    rw [<-e3,Nat.add_comm,aa,es] at U;cases U
inductive Wts (Y:Sy):Str->Str->Prop
 |one {n m:Str}:Wt Y n m->Wts Y n m
 |more {n m l:Str}:Wts Y n m->Wt Y m l->Wts Y n l
theorem wts_less (h:Y.Ok){n m:Str}(w:Wts Y n m):∀{k:Nat}{a:om D},Fh Y k n=some a->∃j b,j<k/\Fh Y j m=some b:=by
 induction w with
 |one w=>exact λe=>wt_less h w e
 |more _ w O=>
  intro k a e;obtain⟨j,b,hj,U⟩:=O e;obtain⟨i,c,hi,e2⟩:=wt_less h w U;exact⟨i,c,by omega,e2⟩
theorem ring_none (h:Y.Ok){n:Str}(w:Wts Y n n):F Y n=none:=by
 have O:∀k a,Fh Y k n≠some a:=by
  intro k
  induction k using Nat.strongRecOn with
  |_ k U=>
   intro a e;obtain⟨j,b,hj,e1⟩:=wts_less h w e;exact U j hj b e1
 cases e:F Y n with
 |none=>rfl
 |some a=>
  obtain⟨k,e⟩:=(F_iff h).mp e;exact absurd e (O k a)
structure Ss (Y:Sy) where
 stk:oj (Str×Y.G)
 don:oj (Str×Y.G)
def jT (l:oj (Str×Y.G))(m:Str):om Y.G:=(l.find? λp=>decide (p.1=m)).map (·.2)
noncomputable def yet (S:Ss Y)(m:Str):om (om (om D)):=if m∈S.stk.map (·.1) then some none else match Y.g0 m with
 |none=>some (some (Y.once m))
 |some _=>(jT S.don m).map λg=>(Y.said g).map some
noncomputable def nxt (S:Ss Y):Ss Y:=match S.stk with
 | []=>S
 |(n,g)::r=>if Y.fin g=true then⟨r,S.don++ [(n,g)]⟩ else match Y.want g with
  |none=>⟨(n,Y.own g)::r,S.don⟩
  |some m=>match yet S m with
   |some (some a)=>⟨(n,Y.tk g a)::r,S.don⟩
   |some none=>⟨(n,Y.stuck g m)::r,S.don⟩
   |none=>match Y.g0 m with
    |some g'=>⟨(m,g')::(n,g)::r,S.don⟩
    |none=>S
noncomputable def nx (S:Ss Y):Nat->Ss Y
 |0=>S
 |k+1=>nxt (nx S k)
noncomputable def rest (S:Ss Y):oj Str:=Y.ns.filter λm=>decide (m∉S.stk.map (·.1))&&decide (m∉S.don.map (·.1))
noncomputable def lfts:oj (Str×Y.G)->Nat
 | []=>0
 |(_,g)::r=>Y.lft g+1+lfts r
noncomputable def mu (S:Ss Y):Nat:=lfts S.stk+(Y.M+2)*(rest S).length
theorem xq {S:Ss Y}{m:Str}(h:yet S m=none):m∉S.stk.map (·.1)/\(∃g,Y.g0 m=some g)/\m∉S.don.map (·.1):=by
 unfold yet at h;by_cases c:m∈S.stk.map (·.1)
 ·rw [if_pos c] at h;cases h
 ·rw [if_neg c] at h;cases O:Y.g0 m with
  |none=>rw [O] at h;cases h
  |some g=>
   rw [O] at h;simp only [Option.map_eq_none_iff] at h;refine⟨c,⟨g,1⟩,λhm=> ?_⟩;obtain⟨p,hp,rfl⟩:=List.mem_map.mp hm;have U:(S.don.find? λq=>decide (q.1=p.1))=none:=by simpa [jT] using h
   rw [U9] at U;exact U p hp (by simp)
theorem WU {p q:Str->Bool}{l:oj Str}{m:Str}(hl:m∈l)(hp:p m=true)(hq:q m=false)(O:∀x,q x=true->p x=true):(l.filter q).length<(l.filter p).length:=by
 induction l with
 |nil=>cases hl
 |cons x r U=>
  have le:(r.filter q).length<=(r.filter p).length:=by
   clear U hl
   induction r with
   |nil=>exact ug _
   |cons y r U=>
    rw [vB,vB];cases h1:q y with
    |true=>rw [O y h1,if_pos rfl,if_pos rfl];simp only [ui];omega
    |false=>
     rw [if_neg u8];split
     ·simp only [ui];omega
     ·exact U
  rw [vB,vB];rcases List.mem_cons.mp hl with rfl|hm
  ·rw [hp,hq,if_pos rfl,if_neg u8,ui];omega
  ·have:=U hm;cases h1:q x with
   |true=>rw [O x h1,if_pos rfl,if_pos rfl];simp only [ui];omega
   |false=>
    rw [if_neg u8];split
    ·simp only [ui];omega
    ·exact this
theorem nxt_mu (h:Y.Ok){S:Ss Y}(hs:S.stk≠ []):mu (nxt S)<mu S:=by
 obtain⟨stk,don⟩:=S;cases stk with
 |nil=>exact absurd rfl hs
 |cons p r=>
  obtain⟨n,g⟩:=p;have same:∀g',Y.lft g'<Y.lft g->mu (⟨(n,g')::r,don⟩:Ss Y)<mu ⟨(n,g)::r,don⟩:=by
   intro g' hl;show Y.lft g'+1+lfts r+(Y.M+2)*_<Y.lft g+1+lfts r+(Y.M+2)*_;have e:rest (⟨(n,g')::r,don⟩:Ss Y)=rest ⟨(n,g)::r,don⟩:=rfl;rw [e];omega
  unfold nxt;simp only;cases O:Y.fin g with
  |true=>
   rw [if_pos rfl];show lfts r+(Y.M+2)*_<Y.lft g+1+lfts r+(Y.M+2)*_;have e:rest (⟨r,don++ [(n,g)]⟩:Ss Y)=rest ⟨(n,g)::r,don⟩:=by
    unfold rest
    congr 1
    funext x
    simp only [uu,uq,Uf,List.mem_append,uB,uC,uM,<-Bool.decide_and];rw [uR];constructor
    ·rintro⟨a,b⟩;exact⟨λz=>z.elim (λz=>b (.inr z)) a,λz=>b (.inl z)⟩
    ·rintro⟨a,b⟩;exact⟨λz=>a (.inr z),λz=>z.elim b λz=>a (.inl z)⟩
   rw [e];omega
  |false=>
   rw [if_neg u8];cases hw:Y.want g with
   |none=>exact same _ (h.lo g O hw)
   |some m=>
    simp only;cases hy:yet (⟨(n,g)::r,don⟩:Ss Y) m with
    |some o=>
     cases o with
     |some a=>exact same _ (h.lt g m a O hw)
     |none=>exact same _ (h.lk g m O)
    |none=>
     simp only;obtain⟨h1,⟨g',U⟩,h2⟩:=xq hy;rw [U];show Y.lft g'+1+(Y.lft g+1+lfts r)+(Y.M+2)*(rest (⟨(m,g')::(n,g)::r,don⟩:Ss Y)).length<Y.lft g+1+lfts r+(Y.M+2)*(rest (⟨(n,g)::r,don⟩:Ss Y)).length;have e:(rest (⟨(m,g')::(n,g)::r,don⟩:Ss Y)).length<(rest (⟨(n,g)::r,don⟩:Ss Y)).length:=by
      refine WU (m:=m) (h.gn m g' U) ?_ ?_ ?_
      ·simp only [ur,uU];exact⟨h1,h2⟩
      ·simp
      ·intro x hx;simp only [ur,uU] at hx⊢;exact⟨λz=>hx.1 (ub _ z),hx.2⟩
     have l0:=h.l0 m g' U;have e2:=Nat.mul_le_mul_left (Y.M+2) (Nat.succ_le_of_lt e);rw [Nat.mul_succ] at e2;omega
def Chn (Y:Sy):oj (Str×Y.G)->Prop
 | []=>True
 |(n,g)::r=>(∃s k,Y.g0 n=some s/\g=it Y (F Y) k s)/\Chn Y r/\∀p r',r=p::r'->Y.fin p.2=false/\Y.want p.2=some n
structure SOk (n0:Str)(S:Ss Y):Prop where
 chn:Chn Y S.stk
 nd:(S.stk.map (·.1)++S.don.map (·.1)).Nodup
 don:∀p∈S.don,∃s,Y.g0 p.1=some s/\p.2=it Y (F Y) Y.M s
 bot:(S.stk.map (·.1)).getLast? =some n0∨S.stk= []/\(S.don.map (·.1)).getLast? =some n0
theorem chn_wts {n:Str}{g:Y.G}:∀{r:oj (Str×Y.G)}{m:Str},Chn Y ((n,g)::r)->m∈r.map (·.1)->Wts Y m n:=by
 intro r
 induction r generalizing n g with
 |nil=>intro m _ h;cases h
 |cons p r ih=>
  intro m hc hm;obtain⟨O,g'⟩:=p;obtain⟨_,U,c3⟩:=hc;obtain⟨f1,w1⟩:=c3 (O,g') r rfl;obtain⟨s,k,hs,hk⟩:=U.1;have w:Wt Y O n:=⟨s,k,hs,by rw [<-hk];exact f1,by rw [<-hk];exact w1⟩
  rcases List.mem_cons.mp hm with rfl|hm
  ·exact .one w
  ·exact .more (ih U hm) w
theorem don_at {l:oj (Str×Y.G)}{m:Str}{g:Y.G}(h:jT l m=some g):(m,g)∈l:=by
 unfold jT at h;cases e:l.find? λp=>decide (p.1=m) with
 |none=>rw [e] at h;cases h
 |some p=>
  rw [e] at h;cases uE h;have:=List.find?_some e;have hm:p.1=m:=uh this;rw [<-hm];exact vP e
theorem nxt_ok (h:Y.Ok){n0:Str}{S:Ss Y}(hs:SOk n0 S):SOk n0 (nxt S):=by
 obtain⟨stk,don⟩:=S;cases stk with
 |nil=>exact hs
 |cons p r=>
  obtain⟨n,g⟩:=p;obtain⟨chn,nd,O,bot⟩:=hs;obtain⟨⟨s,k,U,hk⟩,c2,c3⟩:=chn;have on:∀g',Y.fin g=false->step Y (F Y) g=g'->SOk n0 (⟨(n,g')::r,don⟩:Ss Y):=by
   intro g' hf e;refine⟨⟨⟨s,k+1,U,?_⟩,c2,c3⟩,nd,O,.inl ?_⟩
   ·rw [it_snoc,<-hk,e]
   ·rcases bot with b|⟨b,_⟩
    ·exact b
    ·cases b
  unfold nxt;simp only;cases hf:Y.fin g with
  |true=>
   rw [if_pos rfl];refine⟨c2,?_,λq hq=> ?_,?_⟩
   ·show(r.map (·.1)++(don++ [(n,g)]).map (·.1)).Nodup;have ac:(n::(r.map (·.1)++don.map (·.1))).Nodup:=nd;rw [uu,<-List.append_assoc];show((r.map (·.1)++don.map (·.1))++ [n]).Nodup;exact(List.perm_append_comm (l₁:= [n]) (l₂:=r.map (·.1)++don.map (·.1))).nodup_iff.mp ac
   ·rcases List.mem_append.mp hq with hq|hq
    ·exact O q hq
    ·cases List.mem_singleton.mp hq;refine⟨s,U,?_⟩;show g=_;rw [hk];refine it_one (by rw [<-hk];exact hf) (it_end h _ _ (h.l0 n s U))
   ·rcases bot with b|⟨b,_⟩
    ·cases r with
     |nil=>
      right;refine⟨1,?_⟩;have hn:n=n0:=by simpa using b
      show((don++ [(n,g)]).map (·.1)).getLast? =some n0;rw [uu,hn];simp
     |cons q r=>
      left
      simpa [Uz] using b
    ·cases b
  |false=>
   rw [if_neg u8];have aa:step Y (F Y) g=match Y.want g with
     |none=>Y.own g
     |some m=>match F Y m with
      |some a=>Y.tk g a
      |none=>Y.stuck g m:=by
    unfold step;rw [hf,if_neg u8]
   cases hw:Y.want g with
   |none=>exact on _ hf (by rw [aa,hw])
   |some m=>
    rw [hw] at aa;simp only at aa⊢;cases hy:yet (⟨(n,g)::r,don⟩:Ss Y) m with
    |some o=>
     have hF:F Y m=o:=by
      unfold yet at hy;by_cases c:m∈((n,g)::r).map (·.1)
      ·rw [if_pos c] at hy;cases hy;have w:Wt Y n m:=⟨s,k,U,by rw [<-hk];exact hf,by rw [<-hk];exact hw⟩
       rcases List.mem_cons.mp c with rfl|hm
       ·exact ring_none h (.one w)
       ·exact ring_none h (.more (chn_wts (g:=g) ⟨⟨s,k,U,hk⟩,c2,c3⟩ hm) w)
      ·rw [if_neg c] at hy;cases hg:Y.g0 m with
       |none=>
        rw [hg] at hy;cases hy;exact F_once h hg
       |some gm=>
        rw [hg] at hy;simp only at hy;cases hd:jT don m with
        |none=>rw [hd] at hy;cases hy
        |some gd=>
         rw [hd] at hy;cases hy;obtain⟨s',e1,e2⟩:=O _ (don_at hd);rw [hg] at e1;cases e1;have e3:gd=it Y (F Y) Y.M gm:=e2;rw [F_run h hg,e3]
     cases o with
     |some a=>exact on _ hf (by rw [aa,hF])
     |none=>exact on _ hf (by rw [aa,hF])
    |none=>
     simp only;obtain⟨h1,⟨g',hg⟩,h2⟩:=xq hy;rw [hg];refine⟨⟨⟨g',(0),hg,1⟩,⟨⟨s,k,U,hk⟩,c2,c3⟩,λq r' e=> ?_⟩,?_,O,.inl ?_⟩
     ·cases e;exact⟨hf,hw⟩
     ·show(m::(((n,g)::r).map (·.1)++don.map (·.1))).Nodup;rw [UB];refine⟨λz=> ?_,nd⟩;rcases List.mem_append.mp z with z|z
      ·exact h1 z
      ·exact h2 z
     ·rcases bot with b|⟨b,_⟩
      ·show(m::n::r.map (·.1)).getLast? =some n0;rw [Uz];exact b
      ·cases b
theorem nx_ok (h:Y.Ok){n0:Str}{S:Ss Y}(O:SOk n0 S):∀k,SOk n0 (nx S k)
 |0=>O
 |k+1=>nxt_ok h (nx_ok h O k)
theorem nx_stop {S:Ss Y}{k:Nat}(h:(nx S k).stk= []):∀j,nx S (k+j)=nx S k
 |0=>rfl
 |j+1=>by
  show nxt (nx S (k+j))=_;rw [nx_stop h j];unfold nxt;rw [h]
theorem nx_one {S:Ss Y}{k j:Nat}(O:(nx S k).stk= [])(U:(nx S j).stk= []):nx S k=nx S j:=by
 rcases Nat.le_total k j with h|h
 ·obtain⟨d,rfl⟩:=Nat.le.dest h;exact(nx_stop O d).symm
 ·obtain⟨d,rfl⟩:=Nat.le.dest h;exact nx_stop U d
noncomputable def S0 (Y:Sy)(n:Str):Ss Y:=match Y.g0 n with
 |none=>⟨[],[]⟩
 |some g=>⟨[(n,g)],[]⟩
theorem S0_ok {n:Str}{g:Y.G}(O:Y.g0 n=some g):SOk n (S0 Y n):=by
 unfold S0;rw [O];exact⟨⟨⟨g,(0),O,1⟩,trivial,λ_ _ e=>by cases e⟩,by simp,λ_ h=>(by cases h),.inl rfl⟩
end Sy
end K40
namespace K40
open PySem L2 PyProof.Rows
def ThS (d:D):Prop:=(∃z,d=flt z)∨(∃e,d= .tup [.str "said",e]/\isT e=true)∨∃(u z:Str),d= .tup [.str "asks",.tup [.str u,.str z]]/\isT (.str z)=true/\(u="names"∨(u="thing"∨u="has")/\nm z=true)
theorem isNm_st {d:D}(h:isNm d=true):∃z,d= .str z/\nm z=true:=by
 cases d with
 |str z=>exact⟨z,1,h⟩
 |_=>cases h
theorem rowO_sh {own:Str}{n:Nat}{r:Rw}{B:Str->D}{p:Int}{e:D}(hr:jg n 300 r)(h:Tr B)(O:rowO own r B p= .stop e):ThS e:=by
 unfold rowO at O;obtain⟨ks,hk,hp⟩:=id hr;obtain⟨U,ps⟩:=r;by_cases c1:U∈MKR
 ·rw [if_pos c1] at O;simp only at O;generalize made U B own ps=dm at O;have aa:(if isT dm=true then Out.go (setB B (b0 ps) dm) (p+1) else .stop (flt "big"))= .stop e->ThS e:=by
   intro hq;by_cases c:isT dm=true
   ·rw [if_pos c] at hq;cases hq
   ·rw [if_neg c] at hq;cases hq;exact .inl ⟨0⟩
  cases dm with
  |non=>cases O;exact .inl ⟨0⟩
  |_=>exact aa O
 rw [if_neg c1] at O;by_cases c2:U∈ASK
 ·rw [if_pos c2] at O;cases O;obtain⟨_,_,ek⟩:=Zf _ hk c2;simp only at ek;subst ek;obtain⟨z0,z1,rfl,h0,h1⟩:=ZT hp;have hT:=h z1 h1;show ThS (askF U (B z1));unfold askF;by_cases d1:U="names"
  ·rw [if_pos d1];by_cases d2:isStr (B z1)=true
   ·rw [if_pos d2];obtain⟨z,ez⟩:∃z,B z1= .str z:=by
     cases hb:B z1 with
     |str z=>exact⟨z,1⟩
     |_=>rw [hb] at d2;cases d2
    rw [ez] at hT⊢;exact .inr (.inr ⟨_,z,1,hT,.inl rfl⟩)
   ·rw [if_neg d2];exact .inl ⟨0⟩
  ·rw [if_neg d1];by_cases d2:isNm (B z1)=true
   ·rw [if_pos d2];obtain⟨z,ez,hz⟩:=isNm_st d2;rw [ez] at hT⊢;refine .inr (.inr ⟨_,z,1,hT,.inr ⟨?_,hz⟩⟩);split
    ·exact .inl rfl
    ·exact .inr rfl
   ·rw [if_neg d2];exact .inl ⟨0⟩
 rw [if_neg c2] at O;by_cases c3:U="say"
 ·rw [if_pos c3] at O;cases O;subst c3;have ek:=frm_say _ hk rfl;simp only at ek;subst ek;obtain⟨z0,rfl,h0⟩:=sh_b hp;exact .inr (.inl ⟨0,h z0 h0⟩)
 rw [if_neg c3] at O;by_cases c4:U="fault"
 ·rw [if_pos c4] at O;cases O;exact .inl ⟨0⟩
 rw [if_neg c4] at O;by_cases c5:jump U B ps=true
 ·rw [if_pos c5] at O;cases O
 ·rw [if_neg c5] at O;cases O
theorem runS_sh {rs:oj Rw}{own:Str}(U:QY rs):∀(f:Nat) (B:Str->D) (p:Int) (n:Nat) (gs:oj D),Tr B->1<=p->p<=rs.length+1->ThS (runS rs own gs f B p n).th
 |0,B,p,n,gs,hT,h1,h2=>by
  show ThS (if p>rs.length then flt "silent" else flt "long")
  split<;>exact .inl ⟨0⟩
 |f+1,B,p,n,gs,hT,h1,h2=>by
  unfold runS;by_cases c:p>rs.length
  ·rw [if_pos c];exact .inl ⟨0⟩
  ·rw [if_neg c];have O:=U.ok _ (Wp h1 (by omega))
   have hok:=rowO_ok (own:=own) O hT h1 (by omega)
   cases hO:rowO own (jR rs p) B p with
   |go B' p'=>
    rw [hO] at hok;exact runS_sh U f B' p' (n+1) gs hok.1 hok.2.1 hok.2.2
   |stop e=>exact rowO_sh O hT hO
theorem ansS_sh {rs:oj Rw}{own:Str}(O:QY rs){r:Rn}{a:D}(h:RnOk rs r)(U:QK r.th=true)(ha:AnsOk a):ThS (ansS rs own r a).th:=by
 obtain⟨k1,_⟩:=h.ask U;unfold ansS;cases hn:zI a with
 |true=>rw [if_pos rfl];exact .inl ⟨0⟩
 |false=>
  rw [if_neg u8];have hT:isT a=true:=by
   rcases ha with rfl|ha
   ·cases hn
   ·exact ha
  exact runS_sh O _ _ _ _ _ (Wq h.tr hT) (by have:=h.p1;omega) (by omega)
theorem runS_n {rs:oj Rw}{own:Str}:∀(f:Nat) (B:Str->D) (p:Int) (n:Nat) (gs:oj D),QK (runS rs own gs f B p n).th=true->1<=f/\n<=(runS rs own gs f B p n).n
 |0,B,p,n,gs,h=>by
  have h:QK (if p>rs.length then flt "silent" else flt "long")=true:=h
  split at h<;>exact absurd h (by decide+kernel)
 |f+1,B,p,n,gs,h=>by
  refine⟨by omega,?_⟩
  unfold runS at h⊢;by_cases c:p>rs.length
  ·rw [if_pos c] at h;exact absurd h (show¬QK (flt "silent")=true by decide+kernel)
  ·rw [if_neg c] at h⊢;cases hO:rowO own (jR rs p) B p with
   |go O U=>
    rw [hO] at h;have:=(runS_n f O U (n+1) gs h).2;show n<=(runS rs own gs f O U (n+1)).n;omega
   |stop e=>
    show n<=(if QK e=true then n else n+1)
    split<;>omega
theorem ansS_n {rs:oj Rw}{own:Str}{r:Rn}{a:D}(h:QK (ansS rs own r a).th=true):r.n+1<300/\r.n+1<=(ansS rs own r a).n:=by
 unfold ansS at h⊢;cases hn:zI a with
 |true=>rw [hn,if_pos rfl] at h;exact absurd h (show¬QK (flt "lack")=true by decide+kernel)
 |false=>
  rw [hn,if_neg u8] at h;rw [if_neg u8];have:=runS_n _ _ _ _ _ h;exact⟨by omega,this.2⟩
structure Gp where
 n:Str
 mb:D
 ra:oj D
 run:om (oj Rw×Rn)
 en:om D
noncomputable def enOf (r:Rn):om D:=if QK r.th=true then none else some r.th
def begP (g:Gp)(d:D):Gp:=if zI d=true then{g with en:=some (flt "lack")} else match QZ d with
 |none=>{g with en:=some (flt "rule")}
 |some rs=>{g with run:=some (rs,R0 rs g.n),en:=enOf (R0 rs g.n)}
def jD (g:Gp)(d:D):Gp:=match g.run with
 |none=>begP {g with ra:= [.tup [.tup [.str "rule",g.mb],d]]} d
 |some (rs,r)=>{g with run:=some (rs,ansS rs g.n r d),en:=enOf (ansS rs g.n r d)}
def Z5 (g:Gp):D:=match g.run with
 |none=> .tup [.str "rule",g.mb]
 |some (_,r)=>askOf r.th
def WB (qs:oj (Str×D))(k z:Str):D:=if k="has" then .str (if z∈qs.map (·.1) then "yes" else "no") else rowT (rowG [] ((qs.map (·.1)).filter λy=>Txt.startswith y z))
def isHN (k:Str):Bool:=decide (k="has")||decide (k="names")
def xr (g:Gp):om Str:=match Z5 g with
 | .tup [.str k,.str z]=>if isHN k=true then none else some z
 |_=>none
def ownP (qs:oj (Str×D))(g:Gp):Gp:=match Z5 g with
 | .tup [.str k,.str z]=>jD g (WB qs k z)
 |_=>{g with en:=some (flt "name")}
def JJ:D->om D
 | .tup [.str k,v]=>if k="said" then some v else none
 |_=>none
def Z7 (g:Gp):om D:=g.en.bind JJ
noncomputable def stkP (g:Gp)(m:Str):Gp:={g with en:=some (.tup [.str "stuck",.str m])}
noncomputable def lftP (g:Gp):Nat:=match g.en with
 |some _=>0
 |none=>match g.run with
  |none=>302
  |some (_,r)=>1+(300-r.n)
def g0D (m:Str):D->om Gp
 | .tup [.str k,e]=>if k="leaf" then none else if k="made" then some ⟨m,e,[],none,none⟩ else some (begP ⟨m,.non,[],none,none⟩ e)
 |_=>none
noncomputable def onceD:D->om D
 | .tup [.str _,e]=>some e
 |_=>none
def SyP (qs:oj (Str×D)):Sy:=⟨Gp,λg=>g.en.isSome,xr,ownP qs,λg a=>jD g (a.getD .non),stkP,Z7,λm=>g0D m (qW qs m),λm=>onceD (qW qs m),lftP,(302),qs.map (·.1)⟩
theorem lft_beg {g:Gp}(h:g.run=none)(d:D):g.en=none->lftP (begP g d)<302:=by
 intro O;unfold begP;split
 ·show(0:Nat)<302;omega
 ·cases U:QZ d with
  |none=>show(0:Nat)<302;omega
  |some rs=>
   show(match enOf (R0 rs g.n) with|some _=>0|none=>1+(300-(R0 rs g.n).n))<302
   cases enOf (R0 rs g.n) with
   |some d=>show(0:Nat)<302;omega
   |none=>show(1+(300-(R0 rs g.n).n):Nat)<302;omega
theorem lft_take {g:Gp}(O:g.en=none)(d:D):lftP (jD g d)<lftP g:=by
 unfold jD;cases U:g.run with
 |none=>
  have e:lftP g=302:=by unfold lftP;rw [O,U]
  rw [e];exact lft_beg (g:=⟨g.n,g.mb,[.tup [.tup [.str "rule",g.mb],d]],none,g.en⟩) rfl d O
 |some p=>
  obtain⟨rs,r⟩:=p;have e:lftP g=1+(300-r.n):=by unfold lftP;rw [O,U]
  rw [e];show(match enOf (ansS rs g.n r d) with|some _=>0|none=>1+(300-(ansS rs g.n r d).n))<_
  unfold enOf;by_cases c:QK (ansS rs g.n r d).th=true
  ·rw [if_pos c];have:=ansS_n c;show 1+(300-(ansS rs g.n r d).n)<1+(300-r.n);omega
  ·rw [if_neg c];show 0<1+(300-r.n);omega
theorem j7 {qs:oj (Str×D)}{z:Str}(h:z∉qs.map (·.1)):qW qs z= .non:=by
 unfold qW;have:(qs.find? λp=>decide (p.1=z))=none:=by
  rw [U9];intro p O e;exact h (List.mem_map.mpr ⟨p,O,uh e⟩)
 rw [this]
 rfl
theorem je (qs:oj (Str×D)):(SyP qs).Ok where
 fs:=λ_ _=>rfl
 ss:=λg m=>by
  show JJ (.tup [.str "stuck",.str m])=none;unfold JJ;exact if_neg (by decide+kernel)
 sf:=λg v h=>by
  have h:Z7 g=some v:=h;unfold Z7 at h;show g.en.isSome=true;cases O:g.en with
  |none=>rw [O] at h;cases h
  |some d=>rfl
 lo:=λg U hw=>by
  have O:g.en=none:=by
   cases O:g.en with
   |none=>rfl
   |some d=>have U:g.en.isSome=false:=U;rw [O] at U;cases U
  show lftP (ownP qs g)<lftP g;unfold ownP;split
  ·exact lft_take O _
  ·have:0<lftP g:=by
    unfold lftP;rw [O];simp only;split<;>omega
   exact this
 lt:=λg m a U hw=>by
  have O:g.en=none:=by
   cases O:g.en with
   |none=>rfl
   |some d=>have U:g.en.isSome=false:=U;rw [O] at U;cases U
  exact lft_take O _
 lk:=λg m U=>by
  have O:g.en=none:=by
   cases O:g.en with
   |none=>rfl
   |some d=>have U:g.en.isSome=false:=U;rw [O] at U;cases U
  show 0<lftP g;unfold lftP;rw [O];simp only;split<;>omega
 l0:=λm g h=>by
  have h:g0D m (qW qs m)=some g:=h;show lftP g<=302;unfold g0D at h;split at h
  ·split at h
   ·cases h
   ·split at h
    ·cases h;exact ug _
    ·cases h;exact UG (lft_beg rfl _ rfl)
  ·cases h
 gn:=λm g h=>by
  have h:g0D m (qW qs m)=some g:=h;show m∈qs.map (·.1);by_cases c:m∈qs.map (·.1)
  ·exact c
  ·rw [j7 c] at h;cases h
def EnS (d:D):Prop:=(∃z,d=flt z)∨(∃e,d= .tup [.str "said",e]/\isT e=true)∨∃z,d= .tup [.str "stuck",.str z]
structure GI (g:Gp):Prop where
 n:nm g.n=true
 run:∀rs r,g.run=some (rs,r)->QY rs/\RnOk rs r/\ThS r.th/\(g.en=none->QK r.th=true)
 no:g.run=none->g.en=none->∃z,g.mb= .str z/\nm z=true
 en:∀d,g.en=some d->EnS d
 ra:nL g.ra=true/\dpL g.ra<=30/\g.ra.length<=1
theorem en_of {r:Rn}(h:ThS r.th){d:D}(e:enOf r=some d):EnS d:=by
 unfold enOf at e;by_cases c:QK r.th=true
 ·rw [if_pos c] at e;cases e
 ·rw [if_neg c] at e;cases e;rcases h with h|h|⟨u,z,h,_⟩
  ·exact .inl h
  ·exact .inr (.inl h)
  ·rw [h] at c;exact absurd (show decide (("asks":Str)="asks")=true from uc rfl) c
theorem en_none {r:Rn}(e:enOf r=none):QK r.th=true:=by
 unfold enOf at e;by_cases c:QK r.th=true
 ·exact c
 ·rw [if_neg c] at e;cases e
theorem R0_sh {rs:oj Rw}{n:Str}(h:QY rs):ThS (R0 rs n).th:=runS_sh h 300 B0 1 0 [] B0_tr (by decide) (by have:=h.n0;omega)
theorem gi_beg {g:Gp}(d:D)(h1:nm g.n=true)(h2:g.run=none)(U:nL g.ra=true/\dpL g.ra<=30/\g.ra.length<=1):GI (begP g d):=by
 unfold begP;split
 ·exact⟨h1,λrs r e=>(by rw [show g.run=some (rs,r) from e] at h2;cases h2),(λ_ e=>by cases e),λd e=>by cases e;exact .inl ⟨0⟩,U⟩
 ·cases hr:QZ d with
  |none=>exact⟨h1,λrs r e=>(by rw [show g.run=some (rs,r) from e] at h2;cases h2),(λ_ e=>by cases e),λd e=>by cases e;exact .inl ⟨0⟩,U⟩
  |some rs=>
   have O:=(read_rule hr).2;exact⟨h1,λaa r e=>by cases e;exact⟨O,R0_ok O,R0_sh O,λe=>en_none e⟩,λe _=>(by cases e),λd e=>en_of (R0_sh O) e,U⟩
theorem gi_take {g:Gp}(h:GI g)(U:g.en=none){d:D}(ha:AnsOk d):GI (jD g d):=by
 unfold jD;cases hr:g.run with
 |none=>
  obtain⟨z,hz,_⟩:=h.no hr U;refine gi_beg d h.n rfl ?_;have O:nD d=true/\dp d<=12:=by
   rcases ha with rfl|ha
   ·exact⟨1,by simp [dp]⟩
   ·exact⟨good_n (yD ha),XN ha⟩
  rw [hz];refine⟨?_,?_,ug _⟩
  ·simp only [nL,nD,O.1,vL]
  ·simp only [dpL,dp];have:=O.2;omega
 |some p=>
  obtain⟨rs,r⟩:=p;obtain⟨k1,k2,k3,k4⟩:=h.run rs r hr;have hs:=ansS_sh (own:=g.n) k1 k2 (k4 U) ha;exact⟨h.n,λaa r' e=>by cases e;exact⟨k1,ansS_ok k1 k2 (k4 U) ha,hs,λe=>en_none e⟩,λe _=>(by cases e),λd e=>en_of hs e,h.ra⟩
theorem gi_stk {g:Gp}(h:GI g)(m:Str):GI (stkP g m):=⟨h.n,λrs r e=>⟨(h.run rs r e).1,(h.run rs r e).2.1,(h.run rs r e).2.2.1,(λz=>by cases z)⟩,(λ_ e=>by cases e),λd e=>by cases e;exact .inr (.inr ⟨m,1⟩),h.ra⟩
theorem rowG_tree:∀(zs O:oj Str),isT (rowT O)=true->isT (rowT (rowG O zs))=true
 | [],O,h=>h
 |z::r,O,h=>by
  unfold rowG;split
  ·rename_i c;exact rowG_tree r _ c
  ·exact h
theorem look_ok {qs:oj (Str×D)}(U:YH qs){k:Str}(z:Str)(hk:isHN k=true):isT (WB qs k z)=true/\ansB k (WB qs k z)=true:=by
 unfold WB;by_cases c:k="has"
 ·rw [if_pos c,c];split<;>exact⟨by decide+kernel,by decide+kernel⟩
 ·rw [if_neg c];have O:isT (rowT (rowG [] ((qs.map (·.1)).filter λy=>Txt.startswith y z)))=true:=rowG_tree _ [] (by decide+kernel)
  refine⟨O,?_⟩;have hr:isRow (rowT (rowG [] ((qs.map (·.1)).filter λy=>Txt.startswith y z)))=true:=by
   show List.all (List.map D.str _) isNm=true;rw [vX];intro x hx;obtain⟨y,hy,rfl⟩:=List.mem_map.mp hx;rcases rowG_mem _ _ _ hy with h|h
   ·cases h
   ·exact U.1.1.1 y (List.mem_filter.mp h).1
  unfold ansB;rw [if_neg (show¬zI (rowT _)=true from u8),if_pos O,if_neg c,hr,Bool.or_true]
theorem want_own {qs:oj (Str×D)}{g:Gp}(h:GI g)(he:g.en=none)(U:xr g=none):∃rs r k z,g.run=some (rs,r)/\r.th= .tup [.str "asks",.tup [.str k,.str z]]/\isHN k=true/\isT (.str z)=true/\ownP qs g=jD g (WB qs k z):=by
 unfold xr at U;cases hr:g.run with
 |none=>
  obtain⟨z,hz,_⟩:=h.no hr he;have e:Z5 g= .tup [.str "rule",.str z]:=by unfold Z5;rw [hr,hz]
  rw [e] at U;simp only [show isHN "rule"=false by decide+kernel,if_neg u8] at U
  cases U
 |some p=>
  obtain⟨rs,r⟩:=p;obtain⟨k1,k2,k3,k4⟩:=h.run rs r hr;have O:=k4 he;rcases k3 with⟨z,e⟩|⟨d,e,_⟩|⟨u,z,e,ht,hu⟩
  ·rw [e] at O;exact absurd O (by show¬decide (("fault":Str)="asks")=true;decide+kernel)
  ·rw [e] at O;exact absurd O (by show¬decide (("said":Str)="asks")=true;decide+kernel)
  ·have e2:Z5 g= .tup [.str u,.str z]:=by unfold Z5;rw [hr];show askOf r.th=_;rw [e];rfl
   rw [e2] at U;simp only at U;cases hk:isHN u with
   |false=>rw [hk,if_neg u8] at U;cases U
   |true=>exact⟨rs,r,u,z,1,e,hk,ht,by unfold ownP;rw [e2]⟩
theorem wK {g:Gp}(h:GI g)(he:g.en=none){m:Str}(O:xr g=some m):nm m=true/\((g.run=none/\g.mb= .str m)∨∃rs r,g.run=some (rs,r)/\r.th= .tup [.str "asks",.tup [.str "thing",.str m]]):=by
 unfold xr at O;cases hr:g.run with
 |none=>
  obtain⟨z,hz,hn⟩:=h.no hr he;have e:Z5 g= .tup [.str "rule",.str z]:=by unfold Z5;rw [hr,hz]
  rw [e] at O;simp only [show isHN "rule"=false by decide+kernel,if_neg u8] at O
  cases O;exact⟨hn,.inl ⟨1,hz⟩⟩
 |some p=>
  obtain⟨rs,r⟩:=p;obtain⟨k1,k2,k3,k4⟩:=h.run rs r hr;have U:=k4 he;rcases k3 with⟨z,e⟩|⟨d,e,_⟩|⟨u,z,e,ht,hu⟩
  ·rw [e] at U;exact absurd U (by show¬decide (("fault":Str)="asks")=true;decide+kernel)
  ·rw [e] at U;exact absurd U (by show¬decide (("said":Str)="asks")=true;decide+kernel)
  ·have e2:Z5 g= .tup [.str u,.str z]:=by unfold Z5;rw [hr];show askOf r.th=_;rw [e];rfl
   rw [e2] at O;simp only at O;rcases hu with rfl|⟨rfl|rfl,hn⟩
   ·rw [if_pos (by decide+kernel)] at O;cases O
   ·rw [if_neg (by decide+kernel)] at O
    cases O;exact⟨hn,.inr ⟨rs,r,1,e⟩⟩
   ·rw [if_pos (by decide+kernel)] at O;cases O
theorem gi_own {qs:oj (Str×D)}(U:YH qs){g:Gp}(h:GI g)(O:g.en=none)(hw:xr g=none):GI (ownP qs g):=by
 obtain⟨rs,r,k,z,_,_,hk,_,e⟩:=want_own (qs:=qs) h O hw;rw [e];exact gi_take h O (.inr (look_ok U z hk).1)
theorem Jy {qs:oj (Str×D)}(U:YH qs){m:Str}(h:m∈qs.map (·.1)):nm m=true/\∃k e,qW qs m= .tup [.str k,e]/\(k="made"->∃z,e= .str z/\nm z=true)/\(k≠"made"->(k="leaf"∨k="rule")/\isT e=true):=by
 have hs:=U.1.2 _ (dat_mem U.1.1.2 h);obtain⟨⟨k,e,O⟩,h2,_⟩:=hs;have O:qW qs m= .tup [.str k,e]:=O;have h2:isSrc (qW qs m)=true:=h2;rw [O] at h2;have e1:isSrc (.tup [.str k,e])=if eqD (.str k) (.str "made")=true then isNm e else(eqD (.str k) (.str "leaf")||eqD (.str k) (.str "rule"))&&isT e:=rfl
 rw [e1] at h2;have eq:∀y:Str,eqD (.str k) (.str y)=decide (k=y):=λy=>rfl;rw [eq,eq,eq] at h2;refine⟨U.1.1.1 m h,k,e,O,λc=> ?_,λc=> ?_⟩
 ·rw [uc c,if_pos rfl] at h2;exact isNm_st h2
 ·rw [ue c,if_neg u8,ur,Bool.or_eq_true,uU,uU] at h2;exact h2
theorem gi_g0 {qs:oj (Str×D)}(U:YH qs){m:Str}{g:Gp}(h:g0D m (qW qs m)=some g):GI g/\g.n=m:=by
 have hm:m∈qs.map (·.1):=(je qs).gn m g h;obtain⟨hn,k,e,hd,h1,h2⟩:=Jy U hm;rw [hd] at h;unfold g0D at h;simp only at h;have O:nL ([]:oj D)=true/\dpL ([]:oj D)<=30/\([]:oj D).length<=1:=⟨1,by simp [dpL],uW _⟩
 split at h
 ·cases h
 ·split at h
  ·rename_i c
   cases h;obtain⟨z,rfl,hz⟩:=h1 c;exact⟨⟨hn,λrs r e=>(by cases e),λ_ _=>⟨z,1,hz⟩,λd e=>(by cases e),O⟩,1⟩
  ·cases h;refine⟨gi_beg e hn rfl O,?_⟩;unfold begP;split
   ·rfl
   ·split<;>rfl
theorem said_ok {g:Gp}(h:GI g){v:D}(e:Z7 g=some v):isT v=true:=by
 unfold Z7 at e;cases O:g.en with
 |none=>rw [O] at e;cases e
 |some d=>
  rw [O] at e;have e:JJ d=some v:=e;rcases h.en d O with⟨z,rfl⟩|⟨x,rfl,U⟩|⟨z,rfl⟩
  ·exact absurd e (by unfold JJ flt;simp only;rw [if_neg (by decide+kernel)];exact λh=>by cases h)
  ·have e3:JJ (.tup [.str "said",x])=some x:=by unfold JJ;dsimp only;exact if_pos rfl
   rw [e3] at e;cases e;exact U
  ·exact absurd e (by unfold JJ;simp only;rw [if_neg (by decide+kernel)];exact λh=>by cases h)
theorem take_n (g:Gp)(d:D):(jD g d).n=g.n:=by
 unfold jD;split
 ·unfold begP;split
  ·rfl
  ·split<;>rfl
 ·rfl
theorem own_n (qs:oj (Str×D))(g:Gp):(ownP qs g).n=g.n:=by
 unfold ownP;split
 ·exact take_n _ _
 ·rfl
def SGI {qs:oj (Str×D)}(S:Sy.Ss (SyP qs)):Prop:=∀p:Str×Gp,p∈S.stk∨p∈S.don->GI p.2/\p.2.n=p.1
theorem yet_ok {qs:oj (Str×D)}(hq:YH qs){S:Sy.Ss (SyP qs)}(h:SGI S){m:Str}{a:om D}(e:Sy.yet S m=some (some a)):AnsOk (a.getD .non):=by
 unfold Sy.yet at e;split at e
 ·cases e
 ·split at e
  ·rename_i O
   cases e;have O:g0D m (qW qs m)=none:=O;show AnsOk ((onceD (qW qs m)).getD .non);by_cases hm:m∈qs.map (·.1)
   ·obtain⟨hn,k,e,hd,h1,h2⟩:=Jy hq hm;rw [hd] at O⊢;unfold g0D at O;simp only at O;by_cases c:k="leaf"
    ·exact .inr (h2 (by rw [c];decide+kernel)).2
    ·rw [if_neg c] at O;split at O<;>cases O
   ·rw [j7 hm];exact .inl rfl
  ·cases hd:Sy.jT S.don m with
   |none=>rw [hd] at e;cases e
   |some g=>
    rw [hd] at e;have e:(Z7 g).map some=some a:=uE e;cases U:Z7 g with
    |none=>rw [U] at e;cases e
    |some v=>
     rw [U] at e;cases e;exact .inr (said_ok (h (m,g) (.inr (Sy.don_at hd))).1 U)
theorem nxt_gi {qs:oj (Str×D)}(hq:YH qs){S:Sy.Ss (SyP qs)}(h:SGI S):SGI (Sy.nxt S):=by
 obtain⟨stk,don⟩:=S;cases stk with
 |nil=>exact h
 |cons p r=>
  obtain⟨n,g⟩:=p;obtain⟨U,hn⟩:=h (n,g) (.inl ud);have on:∀g':Gp,GI g'->g'.n=n->SGI (⟨(n,g')::r,don⟩:Sy.Ss (SyP qs)):=by
   intro g' h1 h2 p O;rcases O with O|O
   ·rcases List.mem_cons.mp O with rfl|O
    ·exact⟨h1,h2⟩
    ·exact h p (.inl (ub _ O))
   ·exact h p (.inr O)
  unfold Sy.nxt;simp only;by_cases hf:(SyP qs).fin g=true
  ·rw [if_pos hf];intro p O;rcases O with O|O
   ·exact h p (.inl (ub _ O))
   ·rcases List.mem_append.mp O with O|O
    ·exact h p (.inr O)
    ·cases List.mem_singleton.mp O;exact⟨U,hn⟩
  ·rw [if_neg hf];have he:Gp.en g=none:=by
    cases he:Gp.en g with
    |none=>rfl
    |some d=>exact absurd (show(Gp.en g).isSome=true by rw [he];rfl) hf
   cases hw:(SyP qs).want g with
   |none=>exact on _ (gi_own hq U he hw) ((own_n qs g).trans hn)
   |some m=>
    simp only;cases hy:Sy.yet (⟨(n,g)::r,don⟩:Sy.Ss (SyP qs)) m with
    |some o=>
     cases o with
     |some a=>exact on _ (gi_take U he (yet_ok hq h hy)) ((take_n _ _).trans hn)
     |none=>exact on _ (gi_stk U m) hn
    |none=>
     obtain⟨_,⟨g',e⟩,_⟩:=Sy.xq hy;simp only;rw [e];intro p O;rcases O with O|O
     ·rcases List.mem_cons.mp O with rfl|O
      ·exact gi_g0 hq e
      ·exact h p (.inl O)
     ·exact h p (.inr O)
structure Oc where
 (x dx px ls du dr df:o3)
def ofs (o:Oc):oj (Str×V):= [("given_project",.ref o.px),("stack",.ref o.ls),("under_way",.ref o.du),("full_runs",.ref o.dr),("found",.ref o.df)]
def OMT:oj Str:= ["go_through","enter","settle","runner","leave","go_on","answer_yet","begin_anew"]
theorem of_gp (o:Oc):(ofs o).lookup ("given_project":Str)=some (.ref o.px):=rfl
theorem of_st (o:Oc):(ofs o).lookup ("stack":Str)=some (.ref o.ls):=rfl
theorem of_uw (o:Oc):(ofs o).lookup ("under_way":Str)=some (.ref o.du):=rfl
theorem of_fr (o:Oc):(ofs o).lookup ("full_runs":Str)=some (.ref o.dr):=rfl
theorem of_fd (o:Oc):(ofs o).lookup ("found":Str)=some (.ref o.df):=rfl
theorem Z2 (o:Oc):∀m∈OMT,(ofs o).lookup m=none:=by
 intro m hm;simp only [OMT,uB,uC,uM] at hm;rcases hm with rfl|rfl|rfl|rfl|rfl|rfl|rfl|rfl<;>rfl
structure Kp (L:oj o3)(H H':Hp):Prop where
 kept:∀b ob,H b=some ob->b∉L->H' b=some ob
 tk:Tk H H'
theorem Kp.of {L:oj o3}{H H':Hp}(s:Same H H'):Kp L H H':=⟨λb ob h _=>s b ob h,s.tk⟩
theorem Kp.trans {L:oj o3}{H H1 H2:Hp}(h:Kp L H H1)(k:Kp L H1 H2):Kp L H H2:=⟨λb ob e n=>k.kept b ob (h.kept b ob e n) n,h.tk.trans k.tk⟩
theorem Kp.updD {L:oj o3}{H:Hp}{p:o3}{xs ys:oj (Key×V)}(h:H p=some (.dK xs))(O:p∈L):Kp L H (upd H p (.dK ys)):=⟨λb ob e n=>by have nb:b≠p:=(λz=>n (by rw [z];exact O));rw [qh nb];exact e,Tk.updD h⟩
theorem Zy {κ:Type}[DecidableEq κ](k j:κ):∀kvs:oj (κ×V),valV (jy kvs k) j=if j=k then none else valV kvs j
 | []=>by show none=_;split<;>rfl
 |p::r=>by
  by_cases c:p.1=k
  ·rw [dropK_pos c,Zy k j r];by_cases d:j=k
   ·rw [if_pos d,if_pos d]
   ·rw [if_neg d,if_neg d,Qw (λz=>d (z.symm.trans c))]
  ·rw [dropK_neg c];by_cases d:p.1=j
   ·rw [QG d,if_neg (λz=>c (d.trans z)),QG d]
   ·rw [Qw d,Zy k j r,Qw d]
theorem yV.kp {C:o3}{L:oj o3}{H H':Hp}{x:o3}{qs:oj (Str×D)}(h:yV C H x qs)(k:Kp L H H')(U:∀p∈L,(∃xs,H p=some (.lst xs))∨(∃xs,H p=some (.dK xs))∨H p=none):yV C H' x qs:=by
 obtain⟨dx,d,o,vs,O,e2,e3,e4⟩:=h;have n1:x∉L:=λz=>by rcases U x z with⟨_,e⟩|⟨_,e⟩|e<;>rw [e] at O<;>cases O
 have n2:d∉L:=λz=>by rcases U d z with⟨_,e⟩|⟨_,e⟩|e<;>rw [e] at e2<;>cases e2
 exact⟨dx,d,o,vs,k.kept _ _ O n1,k.kept _ _ e2 n2,e3,e4.mono k.tk⟩
structure OAt (CO CP:o3)(H:Hp)(o:Oc)(qs:oj (Str×D)):Prop where
 e:H o.x=some (.ins CO o.dx (ofs o))
 p:yV CP H o.px qs
theorem OAt.kp {CO CP:o3}{L:oj o3}{H H':Hp}{o:Oc}{qs:oj (Str×D)}(h:OAt CO CP H o qs)(k:Kp L H H')(O:∀p∈L,(∃xs,H p=some (.lst xs))∨(∃xs,H p=some (.dK xs))∨H p=none):OAt CO CP H' o qs:=by
 refine⟨k.kept _ _ h.e (λz=> ?_),h.p.kp k O⟩;have U:=h.e;rcases O o.x z with⟨_,e⟩|⟨_,e⟩|e<;>rw [e] at U<;>cases U
def UkOk {qs:oj (Str×D)}(S:Sy.Ss (SyP qs))(uk:oj (Key×V)):Prop:=∀m:Str,(valV uk (Sum.inr m)).isSome=decide (m∈S.stk.map (·.1))
def FdOk {qs:oj (Str×D)}(H:Hp)(S:Sy.Ss (SyP qs))(fk:oj (Key×V)):Prop:=∀(m:Str) (g:Gp),g0D m (qW qs m)=some g->
 (∀g':Gp,Sy.jT S.don m=some g'->∃v,valV fk (Sum.inr m)=some v/\Is H (J8 (g'.en.getD .non)) v)/\(Sy.jT S.don m=none->valV fk (Sum.inr m)=none)
theorem FdOk.mono {qs:oj (Str×D)}{H H':Hp}{S:Sy.Ss (SyP qs)}{fk:oj (Key×V)}(h:FdOk H S fk)(t:Tk H H'):FdOk H' S fk:=λm g O=>⟨λg' e=>let⟨v,a,b⟩:=(h m g O).1 g' e;⟨v,a,b.mono t⟩,(h m g O).2⟩
def ansIs:om (om D)->D->Prop
 |some (some v),d=>d= .tup [.str "value",v]
 |some none,d=>d= .tup [.str "lack"]
 |none,d=>∃k r,d= .tup (.str k::r)/\k≠"value"/\k≠"lack"
def YetIs {qs:oj (Str×D)}(H:Hp)(S:Sy.Ss (SyP qs))(m:Str)(v:V):Prop:=match Sy.yet S m with
 |none=>v= .non
 |some o=>∃d,Is H d v/\ansIs o d
def sp_yet (CO CP:o3):Sp:=λvs H Q _=>∃(o:Oc) (m:Str) (qs:oj (Str×D)) (S:Sy.Ss (SyP qs)) (uk fk:oj (Key×V)),vs= [.ref o.x,.str m]/\OAt CO CP H o qs/\YH qs/\SGI S/\H o.du=some (.dK uk)/\UkOk S uk/\H o.df=some (.dK fk)/\FdOk H S fk/\fk.length<=100000/\(∀p∈S.don,(SyP qs).fin p.2=true)/\
 ∀(v:V) (H':Hp) (fk':oj (Key×V)),Kp [o.df] H H'->H' o.df=some (.dK fk')->FdOk H' S fk'->fk'.length<=fk.length+1->(Sy.yet S m=none->fk'.length=fk.length)->YetIs H' S m v->Q v H'
def sp_anew (CO:o3):Sp:=λvs H Q _=>∃(x dx px:o3),vs= [.ref x,.ref px]/\H x=some (.ins CO dx [])/\∀(o:Oc) (H':Hp),o.x=x->o.dx=dx->o.px=px->(∀b ob,H b=some ob->b≠x->H' b=some ob)->Tk H H'->H o.ls=none->H o.du=none->H o.dr=none->H o.df=none-> [o.ls,o.du,o.dr,o.df].Nodup->H' x=some (.ins CO dx (ofs o))->H' o.ls=some (.lst [])->H' o.du=some (.dK [])->H' o.dr=some (.dK [])->H' o.df=some (.dK [])->Q .non H'
def sp_leave:Sp:=λvs H Q _=>∃x y,vs= [x,y]/\Q .non H
theorem once_ans {qs:oj (Str×D)}(O:YH qs){m:Str}(h:g0D m (qW qs m)=none):∃k,ZM (qW qs m)= .tup k/\ansIs (some (onceD (qW qs m))) (.tup k):=by
 by_cases hm:m∈qs.map (·.1)
 ·obtain⟨hn,k,e,hd,h1,h2⟩:=Jy O hm;rw [hd] at h⊢;unfold g0D at h;simp only at h;by_cases c:k="leaf"
  ·refine⟨[.str "value",e],?_,1⟩;unfold ZM;simp only;exact if_pos c
  ·rw [if_neg c] at h;split at h<;>cases h
 ·rw [j7 hm];exact⟨0,1⟩
theorem once_no {qs:oj (Str×D)}(O:YH qs){m:Str}{g:Gp}(h:g0D m (qW qs m)=some g):ZM (qW qs m)= .non:=by
 obtain⟨hn,k,e,hd,h1,h2⟩:=Jy O ((je qs).gn m g h);rw [hd] at h⊢;unfold g0D at h;simp only at h;by_cases c:k="leaf"
 ·rw [if_pos c] at h;cases h
 ·unfold ZM;simp only;exact if_neg c
theorem ans_of {g:Gp}(h:GI g)(hf:g.en.isSome=true):ansIs ((Z7 g).map some) (J8 (g.en.getD .non)):=by
 cases U:g.en with
 |none=>rw [U] at hf;cases hf
 |some d=>
  unfold Z7;rw [U];show ansIs ((JJ d).map some) (J8 d);rcases h.en d U with⟨z,rfl⟩|⟨x,rfl,hx⟩|⟨z,rfl⟩
  ·have O:JJ (flt z)=none:=by unfold JJ flt;dsimp only;exact if_neg (by decide+kernel)
   have e2:J8 (flt z)=flt z:=by unfold J8 flt;dsimp only;exact if_neg (by decide+kernel)
   rw [O,e2];exact⟨"fault",[.str z],1,by decide+kernel,by decide+kernel⟩
  ·have O:JJ (.tup [.str "said",x])=some x:=by unfold JJ;dsimp only;exact if_pos rfl
   have e2:J8 (.tup [.str "said",x])= .tup [.str "value",x]:=by unfold J8;dsimp only;exact if_pos rfl
   rw [O,e2];exact rfl
  ·have O:JJ (.tup [.str "stuck",.str z])=none:=by unfold JJ;dsimp only;exact if_neg (by decide+kernel)
   have e2:J8 (.tup [.str "stuck",.str z])= .tup [.str "stuck",.str z]:=by unfold J8;dsimp only;exact if_neg (by decide+kernel)
   rw [O,e2];exact⟨"stuck",[.str z],1,by decide+kernel,by decide+kernel⟩
section
variable {P:o9}{w:og}{K:o0}{mg:Str->om o6}{base:o8}{a:Ad}{g:Ga}
theorem ok_leave (T:Tx K mg a):FnOk P w K mg base CX0 1 a.Yt a.Ys ["self","going"] sp_leave:=by
 refine T.g_PlainOrder_leave.F.ok JG () (λ_ _ _ _ H _ Q E O h=> ?_)
 obtain⟨x,y,rfl,q⟩:=h;refine⟨_,#[qe,3,ps_pass],?_⟩
 try dsimp only [cxOf,Cx.nox]
 exact q
theorem ok_anew (T:Tx K mg a):FnOk P w K mg base CX0 1 a.yk a.yf ["self","project"] (sp_anew a.qo):=by
 refine T.g_PlainOrder_begin_anew.F.ok YL () (λ_ _ _ _ H _ Q E hr h=> ?_)
 obtain⟨x,dx,px,rfl,hx,q⟩:=h;have hs:=uA;refine⟨_,#[qc,5,#[qX,8,pv 0,pv 1,rfl],#[qc,5,#[qX,8,pv 0,#[QO,4,qd],rfl],#[qc,5,#[qX,8,pv 0,zy,rfl],#[qc,5,#[qX,8,pv 0,zy,rfl],#[qe,3,#[qX,8,pv 0,zy,rfl]]]]]],?_⟩
 try dsimp only [cxOf,Cx.nox]
 refine⟨0,0,x,_,dx,0,hx,T.qv,T.qV,by decide,?_⟩
 refine⟨(sml rfl),λU h1=> ?_⟩;have n1:x≠U:=qj qf h1;refine⟨0,x,_,dx,0,(qh n1).trans qf,T.qv,T.Qv,by show 1<1000;decide,?_⟩
 intro l2 h2;have n2:x≠l2:=qj qf h2;refine⟨0,x,_,dx,0,(qh n2).trans qf,T.qv,T.Qo,by show 2<1000;decide,?_⟩
 intro l3 h3;have n3:x≠l3:=qj qf h3;refine⟨0,x,_,dx,0,(qh n3).trans qf,T.qv,T.qP,by show 3<1000;decide,?_⟩
 intro l4 h4;have n4:x≠l4:=qj qf h4;refine⟨0,x,_,dx,0,(qh n4).trans qf,T.qv,T.Qu,by show 4<1000;decide,?_⟩
 rw [qh n1.symm] at h1;have O:l2≠U:=λz=>by rw [z,qh n1.symm,qf] at h2;cases h2
 have k2:H l2=none:=by rw [qh n2.symm,qh O,qh n2.symm] at h2;exact h2
 have aa:l3≠l2:=λz=>by rw [z,qh n2.symm,qf] at h3;cases h3
 have ac:l3≠U:=λz=>by rw [z,qh n1.symm,qh O.symm,qh n1.symm,qf] at h3;cases h3
 have k3:H l3=none:=by rw [qh n3.symm,qh aa,qh n3.symm,qh ac,qh n3.symm] at h3;exact h3
 have ad:l4≠l3:=λz=>by rw [z,qh n3.symm,qf] at h4;cases h4
 have ae:l4≠l2:=λz=>by rw [z,qh n2.symm,qh aa.symm,qh n2.symm,qf] at h4;cases h4
 have af:l4≠U:=λz=>by rw [z,qh n1.symm,qh ac.symm,qh n1.symm,qh O.symm,qh n1.symm,qf] at h4;cases h4
 have k4:H l4=none:=by rw [qh n4.symm,qh ad,qh n4.symm,qh ae,qh n4.symm,qh af,qh n4.symm] at h4;exact h4
 have kp:∀b ob,H b=some ob->b≠x->(upd (upd (upd (upd (upd (upd (upd (upd (upd H x (.ins a.qo dx (putF "given_project" (V.ref px) []))) U (.lst [])) x (.ins a.qo dx (putF "stack" (V.ref U) (putF "given_project" (V.ref px) [])))) l2 (.dK [])) x (.ins a.qo dx (putF "under_way" (V.ref l2) (putF "stack" (V.ref U) (putF "given_project" (V.ref px) []))))) l3 (.dK [])) x (.ins a.qo dx (putF "full_runs" (V.ref l3) (putF "under_way" (V.ref l2) (putF "stack" (V.ref U) (putF "given_project" (V.ref px) [])))))) l4 (.dK [])) x (.ins a.qo dx (putF "found" (V.ref l4) (putF "full_runs" (V.ref l3) (putF "under_way" (V.ref l2) (putF "stack" (V.ref U) (putF "given_project" (V.ref px) []))))))) b=some ob:=λb ob h nb=>by
  rw [qh nb,qh (qj h k4),qh nb,qh (qj h k3),qh nb,qh (qj h k2),qh nb,qh (qj h h1),qh nb];exact h
 refine q ⟨x,dx,px,U,l2,l3,l4⟩ _ rfl rfl rfl kp ?_ h1 k2 k3 k4 ?_ ?_ ?_ ?_ ?_ ?_
 ·refine⟨λb xs e=>kp b _ e (λz=> ?_),λb xs e=>⟨xs,kp b _ e (λz=> ?_)⟩,λb xs e=>⟨xs,kp b _ e (λz=> ?_)⟩⟩<;>(rw [z,hx] at e;cases e)
 ·simp only [UB,uB,uC,uM,UK,not_false_eq_true,vZ,and_true];exact⟨⟨O.symm,ac.symm,af.symm⟩,⟨aa.symm,ae.symm⟩,ad.symm⟩
 ·exact qf
 ·rw [qh n1.symm,qh af.symm,qh n1.symm,qh ac.symm,qh n1.symm,qh O.symm,qh n1.symm];exact qf
 ·rw [qh n2.symm,qh ae.symm,qh n2.symm,qh aa.symm,qh n2.symm];exact qf
 ·rw [qh n3.symm,qh ad.symm,qh n3.symm];exact qf
 ·rw [qh n4.symm];exact qf
theorem ok_oinit (T:Tx K mg a):FnOk P w K mg base CX0 2 a.yx a.YF ["self","project"] (sp_anew a.qo):=by
 have U:=ok_anew (P:=P) (w:=w) (base:=base) T;refine T.g_PlainOrder_init.F.ok xH () (λ_ _ _ _ H _ Q E hr h=> ?_)
 obtain⟨x,dx,px,rfl,O,q⟩:=h;refine⟨_,#[qe,3,#[qU,4,#[Qr,20,pv 0,T.qv,T.g_PlainOrder_begin_anew.h,U,hr.mono (),T.g_PlainOrder_begin_anew.b,.nil,qB,#[qb,5,pv 1,qd,_],_,_,_],_]],?_⟩
 try dsimp only [cxOf,Cx.nox]
 exact⟨0,x,dx,0,O,1,0,x,dx,px,1,O,q⟩
theorem ok_yet (T:Tx K mg a):FnOk P w K mg base CX0 2 a.yp a.yj ["self","name"] (sp_yet a.qo a.qH):=by
 have Qm:=JP (P:=P) (w:=w) (base:=base) T;have zf:=ok_once (P:=P) (w:=w) (base:=base) T;refine T.g_PlainOrder_answer_yet.F.ok yb () (λ_ _ _ _ H _ Q E hr h=> ?_)
 obtain⟨o,m,qs,S,uk,fk,rfl,hO,hq,hG,ad,hU,aa,hF,hl,ac,k⟩:=h;have hs:=uA;refine⟨_,#[qc,5,#[qI,8,#[pt_cmp,6,#[pc_din,5,QU hr,pv 1,#[qG,5,pv 0,rfl]],_],#[qe,3,#[qq,4,#[qF,5,#[qb,5,qm,qd,_]]]],qw],#[qc,5,#[qC,2,(2),4,yb.nd,rfl,Or.inl rfl,#[qx,16,zf,hr.mono (),_,T.g_answer_at_once.m,T.g_answer_at_once.F.kp,T.g_answer_at_once.b,.nil,qB,#[qb,5,#[Qr,20,#[qG,5,pv 0,rfl],T.yK,T.g_Project_source_of.h,Qm,hr.mono (),T.g_Project_source_of.b,.nil,qB,#[qb,5,pv 1,qd,_],_,_,_],qd,_],_,_,_],_,_],#[qc,5,#[qI,8,#[qr,8,op_notN,pv 2,qQ,qz _],#[qe,3,#[xa,9,QU hr,#[qG,5,pv 0,rfl],pv 1,pv 2,rfl]],qw],#[qe,3,#[qq,4,#[pe_dget1,7,QU hr,#[qG,5,pv 0,rfl],pv 1,⟨1,1,1,1⟩]]]]]],?_⟩
 try dsimp only [cxOf,Cx.nox]
 refine⟨0,0,o.x,_,o.dx,_,0,hO.e,T.qv,T.Qo,of_uw o,o.du,0,DGet.k (k:=Sum.inr m) ad,0,?_⟩;rw [hU m];by_cases c:m∈S.stk.map (·.1)
 ·have ey:Sy.yet S m=some none:=by unfold Sy.yet;rw [if_pos c]
  refine iteB (uc c) ⟨(sml rfl),λt ht=> ?_⟩;have s1:=qg ht (.tup [V.str "ring"]);refine k _ _ fk (Kp.of s1) (s1 _ _ aa) (hF.mono s1.tk) (Nat.le_succ _) (λ_=>rfl) ?_;unfold YetIs;rw [ey];exact⟨_,Is.new (ds:= [.str "ring"]) ⟨_,0,YQ (by decide),1⟩ ht,"ring",[],1,by decide+kernel,by decide+kernel⟩
 refine iteN (ue c) ?_;refine⟨0,o.x,_,o.dx,_,0,hO.e,T.qv,T.qV,of_gp o,?_⟩;obtain⟨ae,dp,op,ak,hx,hd,hk,hv⟩:=id hO.p;refine⟨o.px,ae,0,hx,jV,0,o.px,m,qs,1,hO.p,λv h1 h2=> ?_⟩;have af:Is H (qW qs m) v:=by
  by_cases cm:m∈qs.map (·.1)
  ·exact h1 cm
  ·rw [h2 cm,j7 cm];exact rfl
 refine⟨v,qW qs m,1,af,?_,λu H1 s1 hu=> ?_⟩
 ·by_cases cm:m∈qs.map (·.1)
  ·obtain⟨_,k,e,hd,_⟩:=Jy hq cm;exact .inr ⟨k,e,hd⟩
  ·exact .inl (j7 cm)
 have O:=s1 _ _ aa;refine⟨0,1,0,?_⟩;cases hg:g0D m (qW qs m) with
 |none=>
  obtain⟨l,e1,e2⟩:=once_ans hq hg;rw [e1] at hu;have ag:u≠ .non:=Xp hu (by intro z;cases z)
  have ey:Sy.yet S m=some (some (onceD (qW qs m))):=by have U:=hg;unfold Sy.yet;rw [if_neg c,show(SyP qs).g0 m=_ from U];rfl
  refine iteB (by simp [ag]) ?_
  have kp:Kp [o.df] H (upd H1 o.df (.dK (putK fk (Sum.inr m) u))):=(Kp.of s1).trans (Kp.updD O ud);refine⟨0,0,o.x,_,o.dx,_,0,s1 _ _ hO.e,T.qv,T.Qu,of_fd o,0,o.df,0,DPut.k (k:=Sum.inr m) O (by omega),?_⟩
  have ah:=hO.kp kp (by intro p hp;cases List.mem_singleton.mp hp;exact .inr (.inl ⟨_,aa⟩))
  refine⟨0,o.x,_,o.dx,_,0,ah.e,T.qv,T.Qu,of_fd o,o.df,1,.inl ⟨_,.inl qf⟩,0,_,DGet.k (k:=Sum.inr m) qf,?_⟩;rw [xi,if_pos rfl];refine k _ _ _ kp qf ?_ (yy _ _ _) (λz=>by rw [ey] at z;cases z) ?_
  ·intro m' g' U;rw [xi,if_neg (λz=>by injection z with z;rw [z,hg] at U;cases U)]
   exact(hF.mono kp.tk) m' g' U
  ·unfold YetIs;rw [ey];exact⟨_,(hu.mono (Tk.updD O)),e2⟩
 |some g=>
  rw [once_no hq hg] at hu;cases(show u= .non from hu)
  refine iteN (by simp) ?_
  refine⟨0,o.x,_,o.dx,_,0,s1 _ _ hO.e,T.qv,T.Qu,of_fd o,o.df,1,.inl ⟨_,.inl O⟩,0,_,DGet.k (k:=Sum.inr m) O,?_⟩;refine k _ _ fk (Kp.of s1) O (hF.mono s1.tk) (Nat.le_succ _) (λ_=>rfl) ?_;have ey:Sy.yet S m=(Sy.jT S.don m).map λg=>(Z7 g).map some:=by have U:=hg;unfold Sy.yet;rw [if_neg c,show(SyP qs).g0 m=_ from U];rfl
  obtain⟨f1,f2⟩:=hF m g hg;unfold YetIs;rw [ey];cases hd:Sy.jT S.don m with
  |none=>
   rw [f2 hd];exact rfl
  |some g'=>
   obtain⟨y,e1,e2⟩:=f1 g' hd;rw [e1];exact⟨_,e2.mono s1.tk,ans_of (hG (m,g') (.inr (Sy.don_at hd))).1 (ac (m,g') (Sy.don_at hd))⟩
structure GRel (g:Gc)(s:Gs)(p:Gp):Prop where
 n:g.n=p.n
 mb:s.mb=p.mb
 ra:s.ra=p.ra
 run:(s.run.map λq=>(q.1.rs,q.2))=p.run
 own:∀mc r,s.run=some (mc,r)->mc.own=g.n
 en:s.en=p.en.getD .non
def plcR:om (Mc×Rn)->oj o3
 |none=> []
 |some (mc,_)=> [mc.x,mc.db,mc.dg]
noncomputable def plc (g:Gc)(s:Gs):oj o3:=g.x::plcR s.run
theorem GRel.none {g:Gc}{s:Gs}{p:Gp}(h:GRel g s p)(e:p.run=none):s.run=none:=by
 have:=h.run;rw [e] at this;cases O:s.run with
 |none=>rfl
 |some q=>rw [O] at this;cases this
theorem GRel.some {g:Gc}{s:Gs}{p:Gp}(h:GRel g s p){rs:oj Rw}{r:Rn}(e:p.run=some (rs,r)):∃mc:Mc,s.run=some (mc,r)/\mc.rs=rs/\mc.own=g.n:=by
 have:=h.run;rw [e] at this;cases O:s.run with
 |none=>rw [O] at this;cases this
 |some q=>
  obtain⟨mc,U⟩:=q;rw [O] at this;cases this;exact⟨mc,1,1,h.own mc U O⟩
theorem GoAt.frame {C CM:o3}{H H':Hp}{g:Gc}{s:Gs}(h:GoAt C CM H g s)(O:∀b∈plc g s,∀ob,H b=some ob->H' b=some ob)(t:Tk H H'):GoAt C CM H' g s:=by
 obtain⟨dx,fs,mv,av,rv,ev,e,f,i,j,k,l⟩:=h;refine⟨dx,fs,mv,av,rv,ev,O _ ud _ e,f,i.mono t,j.mono t,?_,l.mono t⟩;cases U:s.run with
 |none=>rw [U] at k;exact k
 |some q=>
  obtain⟨mc,r⟩:=q;have hp:plc g s= [g.x,mc.x,mc.db,mc.dg]:=by unfold plc plcR;rw [U]
  rw [hp] at O;rw [U] at k;obtain⟨k1,k2,dm,fm,aa,ru,tv,gv,em,ac,i1,i2,⟨bf,ib,jb⟩,i4,i5,i6⟩:=k;exact⟨k1,k2,dm,fm,aa,ru,tv,gv,O _ (by simp) _ em,ac,i1.mono t,i2.mono t,⟨bf,O _ (by simp) _ ib,λz hz=>(jb z hz).mono t⟩,O _ (by simp) _ i4,i5.mono t,i6.mono t⟩
theorem GoAt.there {C CM:o3}{H:Hp}{g:Gc}{s:Gs}(h:GoAt C CM H g s):∀b∈plc g s,∃ob,H b=some ob:=by
 obtain⟨dx,fs,mv,av,rv,ev,e,f,i,j,k,l⟩:=h;intro b O;rcases List.mem_cons.mp O with rfl|O
 ·exact⟨_,e⟩
 ·cases U:s.run with
  |none=>rw [U] at O;cases O
  |some q=>
   obtain⟨mc,r⟩:=q;rw [U] at O k;obtain⟨k1,k2,dm,fm,aa,ru,tv,gv,em,ac,i1,i2,⟨bf,ib,jb⟩,i4,i5,i6⟩:=k;simp only [plcR,uB,uC,uM] at O;rcases O with rfl|rfl|rfl
   ·exact⟨_,em⟩
   ·exact⟨_,ib⟩
   ·exact⟨_,i4⟩
theorem beg_rel {H:Hp}{g:Gc}{d:D}{s s':Gs}{p:Gp}(b:BegOk H g d s s')(h:GRel g s p)(U:p.run=none)(he:p.en=none):GRel g s' (begP p d)/\∀c∈plc g s',c=g.x∨H c=none:=by
 have hr:=h.none U;have aa:s.en= .non:=by rw [h.en,he];rfl
 have nil:s'.run=none->∀c∈plc g s',c=g.x∨H c=none:=λe c O=>by
  unfold plc at O;rw [e] at O;rcases List.mem_cons.mp O with z|z
  ·exact .inl z
  ·cases z
 unfold begP;by_cases c:d= .non
 ·obtain⟨b1,b2⟩:=b.lack c;rw [if_pos (by rw [c];rfl)]
  exact⟨⟨h.n,b.mb.trans h.mb,b.ra.trans h.ra,(by show _=p.run;rw [b1,U];rfl),(λmc r e=>by rw [b1] at e;cases e),b2⟩,nil b1⟩
 ·rw [if_neg (λz=>c (by cases d with|non=>rfl|_=>cases z))]
  cases hd:QZ d with
  |none=>
   obtain⟨b1,b2⟩:=b.rule c hd;exact⟨⟨h.n,b.mb.trans h.mb,b.ra.trans h.ra,(by show _=p.run;rw [b1,U];rfl),(λmc r e=>by rw [b1] at e;cases e),b2⟩,nil b1⟩
  |some rs=>
   obtain⟨mc,c1,c2,c3,c4,c5,c6,c7⟩:=b.go rs hd;refine⟨⟨h.n,b.mb.trans h.mb,b.ra.trans h.ra,?_,λac r e=> ?_,?_⟩,λc O=> ?_⟩
   ·rw [c6];show some (mc.rs,R0 rs g.n)=some (rs,R0 rs p.n);rw [c4,h.n]
   ·rw [c6] at e;cases e;exact c5
   ·rw [c7,h.n,aa];show _=(enOf (R0 rs p.n)).getD .non;unfold enOf;split<;>rfl
   ·unfold plc at O;rw [c6] at O;simp only [plcR,uB,uC,uM] at O;rcases O with z|rfl|rfl|rfl
    ·exact .inl z
    ·exact .inr c1
    ·exact .inr c2
    ·exact .inr c3
noncomputable def runPG:om (oj Rw×Rn)->oj D
 |none=> []
 |some (_,r)=>r.gs
def Yx (p:Gp):D:= .tup [.tup (p.ra++runPG p.run),p.en.getD .non]
theorem full_rel {g:Gc}{s:Gs}{p:Gp}(h:GRel g s p):fullD s=Yx p:=by
 unfold fullD Yx;rw [h.ra,h.en];have e:runG s.run=runPG p.run:=by
  rw [<-h.run];cases s.run with
  |none=>rfl
  |some q=>rfl
 rw [e]
theorem full_len {p:Gp}(h:GI p):p.ra.length+(runPG p.run).length<=1000:=by
 have h1:=h.ra.2.2;cases O:p.run with
 |none=>show _+0<=1000;omega
 |some q=>
  obtain⟨rs,r⟩:=q;have h2:=(h.run rs r O).2.1;have U:=h2.gs.2.2;have h4:=h2.n;show _+r.gs.length<=1000;omega
def sp_enter (CO CP CG CM:o3):Sp:=λvs H Q _=>∃(o:Oc) (m:Str) (qs:oj (Str×D)) (xs:oj V) (uk:oj (Key×V)) (p:Gp),vs= [.ref o.x,.str m]/\OAt CO CP H o qs/\YH qs/\H o.ls=some (.lst xs)/\xs.length<=100000/\H o.du=some (.dK uk)/\uk.length<=100000/\g0D m (qW qs m)=some p/\
 ∀(g:Gc) (s:Gs) (H':Hp),Kp [o.ls,o.du] H H'->H' o.ls=some (.lst (xs++ [.ref g.x]))->H' o.du=some (.dK (putK uk (Sum.inr m) (.bl true)))->GoAt CG CM H' g s->GRel g s p->g.o=o.x->(∀b∈plc g s,H b=none)->Q .non H'
def sp_settle (CO CP CG CM:o3):Sp:=λvs H Q _=>∃(o:Oc) (qs:oj (Str×D)) (g:Gc) (s:Gs) (p:Gp) (rk fk:oj (Key×V)),vs= [.ref o.x,.ref g.x]/\OAt CO CP H o qs/\GoAt CG CM H g s/\GRel g s p/\GI p/\p.en.isSome=true/\H o.dr=some (.dK rk)/\rk.length<=100000/\H o.df=some (.dK fk)/\fk.length<=100000/\o.dr≠o.df/\o.dr∉plc g s/\o.df∉plc g s/\
 ∀(v1 v2:V) (H':Hp),Kp [o.dr,o.df] H H'->H' o.dr=some (.dK (putK rk (Sum.inr g.n) v1))->Is H' (Yx p) v1->H' o.df=some (.dK (putK fk (Sum.inr g.n) v2))->Is H' (J8 (p.en.getD .non)) v2->Q .non H'
theorem ok_enter (T:Tx K mg a)(C:Fx K w mg g a):FnOk P w K mg base CX0 12 a.Yp a.Yr ["self","name"] (sp_enter a.qo a.qH a.qu a.ql):=by
 have Qm:=JP (P:=P) (w:=w) (base:=base) T;have O:=ok_ginit (P:=P) (w:=w) (base:=base) T C;refine T.g_PlainOrder_enter.F.ok J3 () (λ_ _ _ _ H _ Q E hr h=> ?_)
 obtain⟨o,m,qs,xs,uk,p,rfl,hO,hq,U,aq,aa,au,hp,k⟩:=h;have hs:=uA;refine⟨_,#[qc,5,#[qU,4,#[jU,12,uY,vT,vU,jP,#[qG,5,pv 0,rfl],#[qb,5,#[WG,17,T.M_Going,O,hr.mono (),_,T.m_Going,T.g_Going_init.b,.nil,qB,#[qb,5,pv 1,#[qb,5,#[Qr,20,#[qG,5,pv 0,rfl],T.yK,T.g_Project_source_of.h,Qm,hr.mono (),T.g_Project_source_of.b,.nil,qB,#[qb,5,pv 1,qd,_],_,_,_],#[qb,5,pv 0,qd,_],_],_],_,_,_],qd,_],_,_,_,_,_],_],#[qe,3,#[xa,9,QU hr,#[qG,5,pv 0,rfl],pv 1,YR,rfl]]],?_⟩
 try dsimp only [cxOf,Cx.nox]
 refine⟨0,o.x,_,o.dx,_,0,hO.e,T.qv,T.Qv,of_st o,.inl ⟨1,_,SqL.of U⟩,?_⟩;refine⟨0,0,o.x,_,o.dx,_,0,hO.e,T.qv,T.qV,of_gp o,?_⟩;obtain⟨al,dp,op,aw,hx,hd,hk,hv⟩:=id hO.p;refine⟨o.px,al,0,hx,jV,0,o.px,m,qs,1,hO.p,λsv h1 h2=> ?_⟩;have hm:m∈qs.map (·.1):=(je qs).gn m p hp;have ag:=h1 hm;obtain⟨hn,kk,e,am,g1,g2⟩:=Jy hq hm;rw [am] at ag hp;refine⟨0,λx dx ac ah nx=> ?_⟩;have s0:Same H (upd (upd H dx (.own x)) x (.ins a.qu dx [])):=λb o h=>by rw [qh (qj h ac),qh (qj h ah)];exact h
 have nox:o.x≠x:=qj hO.e ac;refine⟨x,dx,o.x,m,kk,sv,e,1,qf,ag.mono s0.tk,hn,nox,⟨_,_,s0 _ _ hO.e,Z2 o _ (by decide+kernel)⟩,λH1 s1 ao ax G1 b1 b2=>⟨1,?_⟩⟩
 have ad:Same H H1:=λb ob h=>ao b ob (s0 b ob h) (qj h ac);have rel:GRel ⟨x,o.x,m⟩ s1 p/\∀c∈plc ⟨x,o.x,m⟩ s1,H c=none:=by
  unfold g0D at hp;simp only at hp;split at hp
  ·cases hp
  ·split at hp
   ·rename_i c
    cases hp;have e1:=b1 c;rw [e1];refine⟨⟨1,1,1,1,(λ_ _ z=>by cases z),1⟩,λc hc=> ?_⟩
    rcases List.mem_cons.mp hc with rfl|hc
    ·exact ac
    ·cases hc
   ·rename_i c
    cases hp;obtain⟨r1,r2⟩:=beg_rel (p:=⟨m,.non,[],none,none⟩) (b2 c) ⟨1,1,1,1,(λ_ _ z=>by cases z),1⟩ rfl rfl
    refine⟨r1,λc hc=> ?_⟩;rcases r2 c hc with rfl|hc
    ·exact ac
    ·exact s0.free hc
 refine⟨o.ls,xs,0,1,ad _ _ U,by omega,?_⟩
 have ak:Kp [o.ls,o.du] H1 (upd H1 o.ls (.lst (xs++ [.ref x]))):=⟨λb ob h n=>by rw [qh (λz=>n (by rw [z];exact ud))];exact h,Kept.tk (p:=o.ls) (λb ob h n=>by rw [qh n];exact h) (ad _ _ U) qf⟩
 have n1:o.du≠o.ls:=λz=>by rw [z,U] at aa;cases aa
 have ae:upd H1 o.ls (.lst (xs++ [.ref x])) o.du=some (.dK uk):=by rw [qh n1];exact ad _ _ aa
 have n2:o.x≠o.ls:=λz=>by have:=hO.e;rw [z,U] at this;cases this
 have n3:o.x≠o.du:=λz=>by have:=hO.e;rw [z,aa] at this;cases this
 refine⟨0,o.x,_,o.dx,_,0,(by rw [qh n2];exact ad _ _ hO.e),T.qv,T.Qo,of_uw o,0,o.du,0,DPut.k (k:=Sum.inr m) ae (by omega),?_⟩
 have ap:=((Kp.of (L:= [o.ls,o.du]) ad).trans ak).trans (Kp.updD (ys:=putK uk (Sum.inr m) (.bl true)) ae (ub _ ud));refine k ⟨x,o.x,m⟩ s1 _ ap (by rw [qh n1.symm];exact qf) qf (G1.frame (λb hb ob h=> ?_) ((ak.trans (Kp.updD (ys:=putK uk (Sum.inr m) (.bl true)) ae (ub _ ud)))).tk) rel.1 rfl rel.2
 have af:=rel.2 b hb;have m1:b≠o.ls:=λz=>by rw [z,U] at af;cases af
 have m2:b≠o.du:=λz=>by rw [z,aa] at af;cases af
 rw [qh m2,qh m1];exact h
theorem ok_settle (T:Tx K mg a):FnOk P w K mg base CX0 3 a.y9 a.Yk ["self","going"] (sp_settle a.qo a.qH a.qu a.ql):=by
 have O:=ok_full (P:=P) (w:=w) (base:=base) T;have U:=ok_ansby (P:=P) (w:=w) (base:=base) T;have xZ:=ok_leave (P:=P) (w:=w) (base:=base) T;refine T.g_PlainOrder_settle.F.ok Ji () (λ_ _ _ _ H _ Q E hr h=> ?_)
 obtain⟨o,qs,g,st,p,rk,fk,rfl,hO,hG,hR,hI,af,ad,aA,ag,aB,ah,nr,nf,k⟩:=h;have hs:=uA;refine⟨_,#[qc,5,#[xa,9,QU hr,#[qG,5,pv 0,rfl],#[qG,5,pv 1,rfl],#[Q3,17,pv 1,T.qK,T.g_Going_full.h,O,hr.mono (),T.g_Going_full.b,.nil,qB,_],rfl],#[qc,5,#[xa,9,QU hr,#[qG,5,pv 0,rfl],#[qG,5,pv 1,rfl],#[qx,16,U,hr.mono (),_,T.g_answer_by.m,T.g_answer_by.F.kp,T.g_answer_by.b,.nil,qB,#[qb,5,#[qG,5,pv 1,rfl],qd,_],_,_,_],rfl],#[qe,3,#[qU,4,#[Qr,20,pv 0,T.qv,T.g_PlainOrder_leave.h,xZ,hr.mono (),T.g_PlainOrder_leave.b,.nil,qB,#[qb,5,pv 1,qd,_],_,_,_],_]]]],?_⟩
 try dsimp only [cxOf,Cx.nox]
 obtain⟨dx,fs,mv,av,rv,ev,e,f,i,j,aC,l⟩:=id hG;have ax:o.dr≠g.x:=λz=>nr (by rw [z];exact ud)
 have aD:o.df≠g.x:=λz=>nf (by rw [z];exact ud)
 have ak:o.x≠o.dr:=λz=>by have:=hO.e;rw [z,ad] at this;cases this
 have al:o.x≠o.df:=λz=>by have:=hO.e;rw [z,ag] at this;cases this
 have am:(runG st.run).length=(runPG p.run).length:=by
  have:=full_rel hR;unfold fullD Yx at this;simp only [D.tup.injEq,Ux] at this;have:=this.1;rw [hR.ra] at this;rw [List.append_cancel_left this]
 refine⟨0,g.x,dx,fs,1,e,f.meth _ (by decide+kernel),g,st,1,hG,(by rw [hR.ra,am];exact full_len hI),λv1 H1 s1 i1=> ?_⟩
 rw [full_rel hR] at i1;refine⟨0,o.x,_,o.dx,_,0,s1 _ _ hO.e,T.qv,T.qP,of_fr o,0,g.x,_,dx,fs,0,s1 _ _ e,T.qK,T.yH,f.XO,o.dr,0,DPut.k (k:=Sum.inr g.n) (s1 _ _ ad) (by omega),?_⟩
 have ae:Kp [o.dr,o.df] H (upd H1 o.dr (.dK (putK rk (Sum.inr g.n) v1))):=(Kp.of s1).trans (Kp.updD (s1 _ _ ad) ud);generalize aa:upd H1 o.dr (.dK (putK rk (Sum.inr g.n) v1))=H2 at ae⊢;have ao:H2 o.dr=some (.dK (putK rk (Sum.inr g.n) v1)):=by rw [<-aa];exact qf
 have e2:H2 g.x=some (.ins a.qu dx fs):=by rw [<-aa,qh ax.symm];exact s1 _ _ e
 have ap:H2 o.x=some (.ins a.qo o.dx (ofs o)):=by rw [<-aa,qh ak];exact s1 _ _ hO.e
 have ac:H2 o.df=some (.dK fk):=by rw [<-aa,qh ah.symm];exact s1 _ _ ag
 have i2:Is H2 (Yx p) v1:=i1.mono (by rw [<-aa];exact Tk.updD (s1 _ _ ad))
 have l2:Is H2 (p.en.getD .non) ev:=by rw [<-hR.en];exact l.mono ae.tk
 obtain⟨kk,ee,aq⟩:∃kk ee,p.en.getD .non= .tup [.str kk,ee]:=by
  cases au:p.en with
  |none=>rw [au] at af;cases af
  |some d=>
   rcases hI.en d au with⟨z,rfl⟩|⟨x,rfl,_⟩|⟨z,rfl⟩
   ·exact⟨_,0⟩
   ·exact⟨_,0⟩
   ·exact⟨_,0⟩
 refine⟨0,g.x,_,dx,fs,0,e2,T.qK,T.QP,f.f_end,ev,kk,ee,1,(by rw [<-aq];exact l2),λv2 H3 s3 i3=> ?_⟩
 rw [<-aq] at i3;refine⟨0,o.x,_,o.dx,_,0,s3 _ _ ap,T.qv,T.Qu,of_fd o,0,g.x,_,dx,fs,0,s3 _ _ e2,T.qK,T.yH,f.XO,o.df,0,DPut.k (k:=Sum.inr g.n) (s3 _ _ ac) (by omega),?_⟩
 have aw:Tk H3 (upd H3 o.df (.dK (putK fk (Sum.inr g.n) v2))):=Tk.updD (s3 _ _ ac);have ay:Kp [o.dr,o.df] H (upd H3 o.df (.dK (putK fk (Sum.inr g.n) v2))):=(ae.trans (Kp.of s3)).trans (Kp.updD (s3 _ _ ac) (ub _ ud));refine⟨0,o.x,o.dx,0,(by rw [qh al];exact s3 _ _ ap),Z2 o _ (by decide+kernel),0,_,0,?_⟩
 exact k v1 v2 _ ay (by rw [qh ah];exact s3 _ _ ao) (i2.mono (s3.tk.trans aw)) qf (i3.mono aw)
end
theorem no_looked {v:V}:List.lookup ("looked_up":Str) [(("by_name":Str),v)]=none:=by rfl
theorem inHN (k:Str):inV (V.str k) [V.str "has",V.str "names"]=isHN k:=by
 have h:=ZA k ["has","names"];refine h.trans ?_;unfold isHN;rw [<-Bool.decide_or,uR];simp
section
variable {C CM CO ba:o3}{H:Hp}{g:Gc}{s:Gs}{p:Gp}{Q:VK}{E:XK}
theorem want_sp (G:GoAt C CM H g s)(R:GRel g s p)(I:GI p)(O:p.en=none){m:Str}(U:xr p=some m)(k:∀kd v H',Same H H'->isHN kd=false->Is H' (.tup [.str kd,.str m]) v->Q v H'):Zv C CM [.ref g.x] H Q E:=by
 obtain⟨hn,h⟩:=wK I O U;refine⟨g,s,1,G,?_⟩;rcases h with⟨h1,h2⟩|⟨rs,r,h1,h2⟩
 ·exact .inl ⟨R.none h1,m,by rw [R.mb,h2],λv H' s' i=>k _ v H' s' (by decide+kernel) i⟩
 ·obtain⟨mc,e1,e2,e3⟩:=R.some h1;exact .inr ⟨mc,r,_,e1,h2,λv i=>k _ v H (Same.refl _) (by decide+kernel) i⟩
theorem want_spO {qs:oj (Str×D)}(G:GoAt C CM H g s)(R:GRel g s p)(I:GI p)(O:p.en=none)(U:xr p=none)(k:∀rs r kd z v,p.run=some (rs,r)->r.th= .tup [.str "asks",.tup [.str kd,.str z]]->isHN kd=true->isT (.str z)=true->ownP qs p=jD p (WB qs kd z)->Is H (.tup [.str kd,.str z]) v->Q v H):Zv C CM [.ref g.x] H Q E:=by
 obtain⟨rs,r,kd,z,h1,h2,h3,h4,h5⟩:=want_own (qs:=qs) I O U;obtain⟨mc,e1,e2,e3⟩:=R.some h1;exact⟨g,s,1,G,.inr ⟨mc,r,_,e1,h2,λv i=>k rs r kd z v h1 h2 h3 h4 h5 i⟩⟩
theorem take_sp (G:GoAt C CM H g s)(R:GRel g s p)(I:GI p)(he:p.en=none){d:D}{v:V}(hv:Is H d v)(U:∀rs r,p.run=some (rs,r)->∃u q,r.th= .tup [.str "asks",.tup [.str u,q]]/\ansB u d=true)(aa:g.o≠g.x)(ho:∃dx fs,H g.o=some (.ins CO dx fs)/\fs.lookup ("runner":Str)=none)
  (k:∀H' s',Gw g s.run H H'->GoAt C CM H' g s'->GRel g s' (jD p d)->(∀b∈plc g s',b∈plc g s∨H b=none)->Q .non H'):zu C CM CO ba [.ref g.x,v] H Q E:=by
 refine⟨g,s,v,d,1,G,by rw [R.n];exact I.n,hv,aa,ho,?_⟩
 cases O:p.run with
 |none=>
  obtain⟨z,hz,_⟩:=I.no O he;have hr:=R.none O;refine .inl ⟨hr,z,by rw [R.mb,hz],λH' s' w G' b=> ?_⟩
  obtain⟨r1,r2⟩:=beg_rel (p:=⟨p.n,p.mb,[.tup [.tup [.str "rule",p.mb],d]],none,none⟩) b ⟨R.n,R.mb,(by show _= [D.tup [.tup [.str "rule",p.mb],d]];rw [hz]),(by show s.run.map _=none;rw [hr];rfl),R.own,(by show s.en= .non;rw [R.en,he];rfl)⟩ rfl rfl
  refine k H' s' w G' ?_ λc hc=> ?_
  ·have:jD p d=begP ⟨p.n,p.mb,[.tup [.tup [.str "rule",p.mb],d]],none,none⟩ d:=by
    unfold jD;rw [O];show begP ⟨p.n,p.mb,_,none,p.en⟩ d=_;rw [he]
   rw [this];exact r1
  ·rcases r2 c hc with rfl|h
   ·exact .inl ud
   ·exact .inr h
 |some q=>
  obtain⟨rs,r⟩:=q;obtain⟨mc,e1,e2,e3⟩:=R.some O;obtain⟨k1,k2,k3,k4⟩:=I.run rs r O;obtain⟨u,q,h1,h2⟩:=U rs r O;subst e2;refine .inr ⟨mc,r,u,q,e1,e3,k1,k2,h1,h2,λH' w G'=> ?_⟩;have ee:jD p d={p with run:=some (mc.rs,ansS mc.rs p.n r d),en:=enOf (ansS mc.rs p.n r d)}:=by unfold jD;rw [O]
  refine k H' _ w G' ?_ ?_
  ·rw [ee,e3,R.n];unfold lookS enOf;by_cases c:QK (ansS mc.rs p.n r d).th=true
   ·rw [if_pos c,if_pos c];exact⟨R.n,R.mb,R.ra,1,(λac r' z=>by cases z;exact e3),(by show s.en= .non;rw [R.en,he];rfl)⟩
   ·rw [if_neg c,if_neg c];exact⟨R.n,R.mb,R.ra,1,(λac r' z=>by cases z;exact e3),1⟩
  ·intro b hb;left;unfold plc at hb⊢;rw [e1];unfold lookS at hb;split at hb<;>exact hb
end
def LO (o:Oc):oj o3:= [o.ls,o.du,o.dr,o.df]
structure Bs (CO CP:o3)(H0:Hp)(o:Oc)(qs:oj (Str×D)):Prop where
 oa:OAt CO CP H0 o qs
 ls:∃xs,H0 o.ls=some (.lst xs)
 du:∃xs,H0 o.du=some (.dK xs)
 dr:∃xs,H0 o.dr=some (.dK xs)
 df:∃xs,H0 o.df=some (.dK xs)
 nd:(LO o).Nodup
 q:YH qs
section
variable {CO CP:o3}{H0 H H':Hp}{o:Oc}{qs:oj (Str×D)}
theorem Bs.at (b:Bs CO CP H0 o qs)(k:Kp (LO o) H0 H):OAt CO CP H o qs:=b.oa.kp k (by
 intro p O;simp only [LO,uB,uC,uM] at O;rcases O with rfl|rfl|rfl|rfl
 ·exact .inl b.ls
 ·exact .inr (.inl b.du)
 ·exact .inr (.inl b.dr)
 ·exact .inr (.inl b.df))
theorem Bs.new (b:Bs CO CP H0 o qs){c:o3}(h:H0 c=none):c≠o.x/\c≠o.ls/\c≠o.du/\c≠o.dr/\c≠o.df:=by
 obtain⟨_,h1⟩:=b.ls;obtain⟨_,h2⟩:=b.du;obtain⟨_,O⟩:=b.dr;obtain⟨_,h4⟩:=b.df;exact⟨(qj b.oa.e h).symm,(qj h1 h).symm,(qj h2 h).symm,(qj O h).symm,(qj h4 h).symm⟩
theorem Bs.nlo (b:Bs CO CP H0 o qs){c:o3}(h:H0 c=none):c∉LO o:=by
 obtain⟨_,h1,h2,O,h4⟩:=b.new h;simp only [LO,uB,uC,uM,UK];exact⟨h1,h2,O,h4⟩
theorem kp_more {L:oj o3}(b:Bs CO CP H0 o qs)(k:Kp (LO o) H0 H)(h:∀c ob,H c=some ob->c∉o.df::L->H' c=some ob)(t:Tk H H')(O:∀c∈L,H0 c=none):Kp (LO o) H0 H':=⟨λc ob e n=>h c ob (k.kept c ob e n) (λz=>by
 rcases List.mem_cons.mp z with rfl|z
 ·exact n (by simp [LO])
 ·rw [O c z] at e;cases e),k.tk.trans t⟩
end
section
variable {qs:oj (Str×D)}{n:Str}{p:Gp}{r don:oj (Str×Gp)}
theorem nxt_own (U:p.en=none)(hw:xr p=none):Sy.nxt (⟨(n,p)::r,don⟩:Sy.Ss (SyP qs))=⟨(n,ownP qs p)::r,don⟩:=by
 have hf:(SyP qs).fin p=false:=by show p.en.isSome=false;rw [U];rfl
 have O:(SyP qs).want p=none:=hw;unfold Sy.nxt;simp only;rw [hf,if_neg u8,O]
 rfl
theorem nxt_tk (U:p.en=none){m:Str}(hw:xr p=some m){a:om D}(hy:Sy.yet (⟨(n,p)::r,don⟩:Sy.Ss (SyP qs)) m=some (some a)):Sy.nxt (⟨(n,p)::r,don⟩:Sy.Ss (SyP qs))=⟨(n,jD p (a.getD .non))::r,don⟩:=by
 have hf:(SyP qs).fin p=false:=by show p.en.isSome=false;rw [U];rfl
 have O:(SyP qs).want p=some m:=hw;unfold Sy.nxt;simp only;rw [hf,if_neg u8,O];simp only;rw [hy]
 rfl
theorem nxt_stk (U:p.en=none){m:Str}(hw:xr p=some m)(hy:Sy.yet (⟨(n,p)::r,don⟩:Sy.Ss (SyP qs)) m=some none):Sy.nxt (⟨(n,p)::r,don⟩:Sy.Ss (SyP qs))=⟨(n,stkP p m)::r,don⟩:=by
 have hf:(SyP qs).fin p=false:=by show p.en.isSome=false;rw [U];rfl
 have O:(SyP qs).want p=some m:=hw;unfold Sy.nxt;simp only;rw [hf,if_neg u8,O];simp only;rw [hy]
 rfl
theorem nxt_push (he:p.en=none){m:Str}(hw:xr p=some m)(hy:Sy.yet (⟨(n,p)::r,don⟩:Sy.Ss (SyP qs)) m=none):∃O,g0D m (qW qs m)=some O/\Sy.nxt (⟨(n,p)::r,don⟩:Sy.Ss (SyP qs))=⟨(m,O)::(n,p)::r,don⟩:=by
 have hf:(SyP qs).fin p=false:=by show p.en.isSome=false;rw [he];rfl
 have U:(SyP qs).want p=some m:=hw;obtain⟨_,⟨O,e⟩,_⟩:=Sy.xq hy;refine⟨O,e,?_⟩;unfold Sy.nxt;simp only;rw [hf,if_neg u8,U];simp only;rw [hy];simp only;rw [e]
theorem nxt_pop {d:D}(O:p.en=some d):Sy.nxt (⟨(n,p)::r,don⟩:Sy.Ss (SyP qs))=⟨r,don++ [(n,p)]⟩:=by
 have U:(SyP qs).fin p=true:=by show p.en.isSome=true;rw [O];rfl
 unfold Sy.nxt;simp only;rw [U,if_pos rfl]
 rfl
end
theorem ansB_thing {d:D}(h:AnsOk d):ansB "thing" d=true:=by
 unfold ansB;rcases h with rfl|h
 ·rfl
 ·cases hn:zI d with
  |true=>rfl
  |false=>
   rw [if_neg u8,if_pos h,if_neg (by decide+kernel)]
   rfl
structure Rnd {qs:oj (Str×D)}(CG CM:o3)(H0 H H1:Hp)(o:Oc)(S:Sy.Ss (SyP qs))(L0:oj o3)(g:Gc)(s1:Gs)(n:Str)(p1:Gp)(r:oj (Str×Gp))(fk1:oj (Key×V))(top:Nat):Prop where
 st:∃j,(⟨(n,p1)::r,S.don⟩:Sy.Ss (SyP qs))=Sy.nx S j
 len:fk1.length+Sy.mu (⟨(n,p1)::r,S.don⟩:Sy.Ss (SyP qs))<=top
 kp:∀b ob,H b=some ob->b∉o.df::L0->H1 b=some ob
 tk:Tk H H1
 df:H1 o.df=some (.dK fk1)
 fd:FdOk H1 S fk1
 go:GoAt CG CM H1 g s1
 rel:GRel g s1 p1
 pl:∀b∈plc g s1,b∈L0∨H b=none/\H0 b=none
 gi:SGI (⟨(n,p1)::r,S.don⟩:Sy.Ss (SyP qs))
def sp_gon (CO CP CG CM:o3):Sp:=λvs H Q _=>∃(H0:Hp) (o:Oc) (qs:oj (Str×D)) (g:Gc) (s:Gs) (n:Str) (p:Gp) (r don:oj (Str×Gp)) (uk fk:oj (Key×V)) (top:Nat),vs= [.ref o.x,.ref g.x]/\Bs CO CP H0 o qs/\Kp (LO o) H0 H/\H o.du=some (.dK uk)/\UkOk (⟨(n,p)::r,don⟩:Sy.Ss (SyP qs)) uk/\(∀q∈don,q.2.en.isSome=true)/\top<=100000/\g.o=o.x/\(∀b∈plc g s,H0 b=none)/\Rnd CG CM H0 H H o (⟨(n,p)::r,don⟩:Sy.Ss (SyP qs)) (plc g s) g s n p r fk top/\
 ∀(v:V) (H':Hp) (s':Gs) (p':Gp) (fk':oj (Key×V)),Rnd CG CM H0 H H' o (⟨(n,p)::r,don⟩:Sy.Ss (SyP qs)) (plc g s) g s' n p' r fk' top->((v= .non/\p'.en.isSome=true)∨∃m,v= .str m/\p'.en=none/\xr p'=some m/\Sy.yet (⟨(n,p')::r,don⟩:Sy.Ss (SyP qs)) m=none)->Q v H'
theorem Rnd.more {qs:oj (Str×D)}{CG CM CO CP:o3}{H0 H H1 H2 H3:Hp}{o:Oc}{S:Sy.Ss (SyP qs)}{L0:oj o3}{g:Gc}{s1 s3:Gs}{n:Str}{p1 p3:Gp}{r:oj (Str×Gp)}{fk1 U:oj (Key×V)}{top:Nat}(b:Bs CO CP H0 o qs)(k0:Kp (LO o) H0 H)(hL:∀b∈L0,H0 b=none)(h:Rnd CG CM H0 H H1 o S L0 g s1 n p1 r fk1 top)(k2:Kp [o.df] H1 H2)(f2:H2 o.df=some (.dK U))(d2:FdOk H2 S U)(l2:U.length<=fk1.length+1)
  (ac:∀b ob,H2 b=some ob->b∉plc g s1->H3 b=some ob) (t3:Tk H2 H3) (G3:GoAt CG CM H3 g s3) (R3:GRel g s3 p3) (ae:∀b∈plc g s3,b∈plc g s1∨H2 b=none) (e:Sy.nxt (⟨(n,p1)::r,S.don⟩:Sy.Ss (SyP qs))=⟨(n,p3)::r,S.don⟩):
  Rnd CG CM H0 H H3 o S L0 g s3 n p3 r U top/\Sy.mu (⟨(n,p3)::r,S.don⟩:Sy.Ss (SyP qs))<Sy.mu (⟨(n,p1)::r,S.don⟩:Sy.Ss (SyP qs)):=by
 have ad:=Sy.nxt_mu (je qs) (S:=(⟨(n,p1)::r,S.don⟩:Sy.Ss (SyP qs))) (by intro z;cases z)
 rw [e] at ad;have af:∀b∈plc g s1,H0 b=none:=λb hb=>(h.pl b hb).elim (hL b) (·.2);have nf:o.df∉plc g s1:=λz=>(b.new (af _ z)).2.2.2.2 rfl;have ag:∀b ob,H1 b=some ob->b∉o.df::plc g s1->H3 b=some ob:=λc ob q z=>ac c ob (k2.kept c ob q (λy=>z (by rw [List.mem_singleton.mp y];exact ud))) (λy=>z (ub _ y))
 refine⟨⟨?_,by have:=h.len;omega,λc ob q z=> ?_,(h.tk.trans k2.tk).trans t3,ac _ _ f2 nf,d2.mono t3,G3,R3,λc hc=> ?_,?_⟩,ad⟩
 ·obtain⟨j,hj⟩:=h.st;exact⟨j+1,by show _=Sy.nxt (Sy.nx S j);rw [<-hj,e]⟩
 ·refine ag c ob (h.kp c ob q z) λy=> ?_;rcases List.mem_cons.mp y with rfl|y
  ·exact z ud
  ·rcases h.pl c y with y|⟨y,_⟩
   ·exact z (ub _ y)
   ·rw [q] at y;cases y
 ·rcases ae c hc with hc|hc
  ·exact h.pl c hc
  ·have O:H1 c=none:=by
    cases hq:H1 c with
    |none=>rfl
    |some ob=>
     by_cases y:c=o.df
     ·rw [y,f2] at hc;cases hc
     ·rw [k2.kept c ob hq (λz=>y (List.mem_singleton.mp z))] at hc;cases hc
   by_cases c0:c∈L0
   ·exact .inl c0
   ·right;have aa:H c=none:=by
     cases hq:H c with
     |none=>rfl
     |some ob=>
      by_cases y:c=o.df
      ·rw [y,h.df] at O;cases O
      ·rw [h.kp c ob hq (λz=>by rcases List.mem_cons.mp z with z|z;exact y z;exact c0 z)] at O;cases O
    refine⟨aa,?_⟩;cases hq:H0 c with
    |none=>rfl
    |some ob=>
     by_cases y:c∈LO o
     ·have:=kp_more b k0 h.kp h.tk hL;simp only [LO,uB,uC,uM] at y;have keep:∀x,(∃xs,H0 x=some (.lst xs))∨(∃xs,H0 x=some (.dK xs))->H1 x≠none:=λx hx hn=>by
       rcases hx with⟨xs,hx⟩|⟨xs,hx⟩
       ·obtain⟨ys,hy⟩:=this.tk.lst x xs hx;rw [hy] at hn;cases hn
       ·obtain⟨ys,hy⟩:=this.tk.dct x xs hx;rw [hy] at hn;cases hn
      rcases y with rfl|rfl|rfl|rfl
      ·exact absurd O (keep _ (.inl b.ls))
      ·exact absurd O (keep _ (.inr b.du))
      ·exact absurd O (keep _ (.inr b.dr))
      ·exact absurd O (keep _ (.inr b.df))
     ·rw [k0.kept c ob hq y] at aa;cases aa
 ·have:=nxt_gi b.q h.gi;rw [e] at this;exact this
section
variable {P:o9}{w:og}{K:o0}{mg:Str->om o6}{base:o8}{a:Ad}{g:Ga}
theorem ok_gon (T:Tx K mg a)(C:Fx K w mg g a):FnOk P w K mg base CX0 11 a.Yq a.Ym ["self","going"] (sp_gon a.qo a.qH a.qu a.ql):=by
 have Z8:=ok_wanted (P:=P) (w:=w) (base:=base) T;have jm:=ok_gtake (P:=P) (w:=w) (base:=base) T C;have JS:=ok_looked (P:=P) (w:=w) (base:=base) T;have QC:=ok_yet (P:=P) (w:=w) (base:=base) T;refine T.g_PlainOrder_go_on.F.ok ya () (λ_ _ _ s H _ Q E hr h=> ?_)
 obtain⟨H0,o,qs,gc,st,n,p,r,don,uk,fk,top,rfl,hB,hK,aK,hU,ap,aX,aq,hL,h0,k⟩:=h;have hs:=uA;refine⟨_,#[qc,5,#[zB,6,v6,#[qr,8,yT,#[qG,5,pv 1,rfl],qQ,qz _],#[qc,5,#[qC,2,(2),4,ya.nd,rfl,Or.inl rfl,#[Q3,17,pv 1,T.qK,T.g_Going_wanted.h,Z8,hr.mono (),T.g_Going_wanted.b,.nil,qB,_],_,_],#[qc,5,#[qI,8,#[qr,8,QR,#[qL,7,qJ,pv 2,qk,(λ_ _=>rfl)],#[qF,5,#[qb,5,qm,#[qb,5,qm,qd,_],_]],(by with_unfolding_all rfl)],#[qc,5,#[qU,4,#[Qr,20,pv 1,T.qK,T.g_Going_take.h,jm,hr.mono (),T.g_Going_take.b,.nil,qB,#[qb,5,#[Qr,20,#[qG,5,pv 0,rfl],T.yK,T.g_Project_looked_up.h,JS,hr.mono (),T.g_Project_looked_up.b,.nil,qB,#[qb,5,pv 2,qd,_],_,_,_],qd,_],_,_,_],_],#[qe,3,ps_continue]],qw],#[qc,5,#[qC,2,(3),4,ya.nd,rfl,Or.inl rfl,#[Qr,20,pv 0,T.qv,T.g_PlainOrder_answer_yet.h,QC,hr.mono (),T.g_PlainOrder_answer_yet.b,.nil,qB,#[qb,5,#[qL,7,qJ,pv 2,qk,(λ_ _=>rfl)],qd,_],_,_,_],_,_],#[qc,5,#[qI,8,#[qr,8,yT,pv 3,qQ,qz _],#[qe,3,#[qq,4,#[qL,7,qJ,pv 2,qk,(λ_ _=>rfl)]]],qw],#[qe,3,#[qI,8,#[qr,8,QM,#[qL,7,qJ,pv 3,qk,(λ_ _=>rfl)],qm,qz _],#[qe,3,#[qU,4,#[Qr,20,pv 1,T.qK,T.g_Going_take.h,jm,hr.mono (),T.g_Going_take.b,.nil,qB,#[qb,5,#[qL,7,qJ,pv 3,qk,(λ_ _=>rfl)],qd,_],_,_,_],_]],#[qe,3,#[qI,8,#[qr,8,QM,#[qL,7,qJ,pv 3,qk,(λ_ _=>rfl)],qm,qz _],#[qe,3,#[qU,4,#[Qr,20,pv 1,T.qK,T.g_Going_take.h,jm,hr.mono (),T.g_Going_take.b,.nil,qB,#[qb,5,qQ,qd,_],_,_,_],_]],#[qe,3,#[qX,8,pv 1,#[qF,5,#[qb,5,qm,#[qb,5,#[qL,7,qJ,pv 2,qk,(λ_ _=>rfl)],qd,_],_]],rfl]]]]]]]]]]],#[qe,3,#[qq,4,qQ]]],?_⟩
 try dsimp only [cxOf,Cx.nox]
 let J_:Nat->L2.St->Hp->Prop:=λmm σ H1=>∃(s1:Gs) (p1:Gp) (fk1:oj (Key×V)) (u3 u4:om V),σ= [some (.ref o.x),some (.ref gc.x),u3,u4]/\mm=Sy.mu (⟨(n,p1)::r,don⟩:Sy.Ss (SyP qs))/\Rnd a.qu a.ql H0 H H1 o (⟨(n,p)::r,don⟩:Sy.Ss (SyP qs)) (plc gc st) gc s1 n p1 r fk1 top
 refine⟨J_,⟨_,st,p,fk,none,none,1,1,h0⟩,?_⟩;rintro mm σ H1 ⟨s1,p1,fk1,u3,u4,rfl,rfl,O⟩;have aL:=kp_more hB hK O.kp O.tk hL;have aa:=hB.at aL;have au:∀b∈plc gc s1,H0 b=none:=λb hb=>(O.pl b hb).elim (hL b) (·.2);obtain⟨hI,aZ⟩:=O.gi (n,p1) (.inl ud);have hI:GI p1:=hI;have aw:H1 o.du=some (.dK uk):=O.kp _ _ aK (λz=>by
  rcases List.mem_cons.mp z with z|z
  ·have:=hB.nd;simp [LO] at this;exact this.2.1.2 z
  ·exact(hB.new (hL _ z)).2.2.1 rfl)
 obtain⟨dx,fs,mv,av,rv,ev,e,f,i,j,a1,l⟩:=id O.go;have a2:fs.length<1000:=by have:=f.len;omega
 refine⟨0,gc.x,_,dx,fs,0,e,T.qK,T.QP,f.f_end,1,0,?_⟩;cases he:p1.en with
 |some d=>
  have l':Is H1 d ev:=by have:=l;rw [O.rel.en,he] at this;exact this
  have aM:d≠ .non:=by rcases hI.en d he with⟨z,rfl⟩|⟨x,rfl,_⟩|⟨z,rfl⟩<;>(intro z;cases z)
  refine iteN (ue (Xp l' aM)) ?_;exact k _ H1 s1 p1 fk1 O (.inl ⟨1,by rw [he];rfl⟩)
 |none=>
  have l':Is H1 .non ev:=by have:=l;rw [O.rel.en,he] at this;exact this
  cases(show ev= .non from l')
  refine iteB (uc rfl) ?_;refine⟨λσ' H'=>∃m',m'<Sy.mu (⟨(n,p1)::r,don⟩:Sy.Ss (SyP qs))/\J_ m' σ' H',λ_ _ h=>h,?_⟩;refine Qt λB1 b1=> ?_;have ax:gc.o≠gc.x:=by rw [aq];exact(hB.new (hL _ ud)).1.symm
  have ak:∀H2:Hp,(∀b ob,H1 b=some ob->b∉o.df::plc gc s1->H2 b=some ob)->∃dx fs,H2 gc.o=some (.ins a.qo dx fs)/\fs.lookup ("runner":Str)=none:=λH2 h2=>⟨_,_,(by rw [aq];exact h2 _ _ aa.e (λz=>by
   rcases List.mem_cons.mp z with z|z
   ·have:=aa.e;rw [z,O.df] at this;cases this
   ·exact(hB.new (au _ z)).1 rfl)),Z2 o _ (by decide+kernel)⟩
  cases hw:xr p1 with
  |none=>
   refine⟨0,gc.x,dx,fs,1,e,f.meth _ (by decide+kernel),?_⟩
   refine want_spO (E:=E0) (qs:=qs) O.go O.rel hI he hw λrs rr kd z v ay al ac hz aA hv=>b1 _ _ ?_;refine Qt λB2 b2=> ?_;obtain⟨q,ws,rfl,hq,w1,r1,rfl,⟨rfl,aN⟩,w2,r2,rfl,⟨rfl,aB⟩,h3⟩:=id hv;cases(show r2= [] from h3)
   refine⟨0,q,_,_,0,1,SqT.of hq,1,(sml rfl),λt ht=> ?_⟩;have s2:=qg ht (.tup [V.str "has",V.str "names"]);refine⟨t,0,.inr (SqT.of qf),1,1,0,?_⟩;refine iteB ((inHN kd).trans ac) ?_;obtain⟨aO,dp,op,a3,hx,hd,hk,a4⟩:=id aa.p;have a5:z.length<=300:=by
    have:=yD hz;simp only [good,Qq,ur,uU] at this;exact this.1
   obtain⟨a6,aP⟩:=look_ok hB.q z ac;generalize a7:upd H1 t (.tup [V.str "has",V.str "names"])=H2 at s2⊢;have fin:∀(u:V) (H3:Hp),Same H2 H3->Is H3 (WB qs kd z) u->zu a.qu a.ql a.qo g.ba [.ref gc.x,u] H3 (λ_ H4=>∃m',m'<Sy.mu (⟨(n,p1)::r,don⟩:Sy.Ss (SyP qs))/\J_ m' [some (.ref o.x),some (.ref gc.x),some (.ref q),u4] H4) E0:=λu H3 s3 hu=>by
    have U:=s2.trans s3;refine take_sp (O.go.same U) O.rel hI he hu (λaQ r' e'=> ?_) ax (ak H3 λb ob h _=>U b ob h) λH4 s4 w4 G4 R4 aR=> ?_
    ·rw [ay] at e';cases e';exact⟨kd,_,al,aP⟩
    ·rw [<-aA] at R4;have kq:∀b ob,H3 b=some ob->b∉plc gc s1->H4 b=some ob:=λb ob h n=>w4.kept b ob h (λy=>n (by rw [y];exact ud)) (λmc r' y=>by
      unfold plc at n;rw [y] at n;simp only [plcR,uB,uC,uM,UK] at n;exact⟨n.2.1,n.2.2.1,n.2.2.2⟩)
     obtain⟨m1,m2⟩:=O.more hB hK hL (Kp.of U) (U _ _ O.df) (O.fd.mono U.tk) (Nat.le_succ _) kq w4.tk G4 R4 aR (nxt_own he hw);exact⟨_,m2,s4,_,fk1,_,0,1,m1⟩
   refine⟨0,gc.x,dx,fs,1,s2 _ _ e,f.meth _ (by decide+kernel),?_⟩
   refine⟨0,o.x,_,o.dx,_,0,s2 _ _ aa.e,T.qv,T.qV,of_gp o,?_⟩;refine⟨o.px,aO,0,s2 _ _ hx,no_looked,0,o.px,q,kd,z,qs,1,aa.p.same s2,hB.q,s2 _ _ hq,by omega,?_⟩
   have aC:kd="has"∨kd≠"has"/\kd="names":=by
    unfold isHN at ac;by_cases c:kd="has"
    ·exact .inl c
    ·rw [ue c,Bool.false_or] at ac;exact .inr ⟨c,uh ac⟩
   rcases aC with c|⟨c',c⟩
   ·refine .inl ⟨c,fin _ H2 (Same.refl _) ?_⟩;unfold WB;rw [if_pos c];exact YQ (by split<;>decide)
   ·refine .inr ⟨c,λu H3 s3 hu=>fin u H3 s3 ?_⟩;unfold WB;rw [if_neg c'];exact hu
  |some m=>
   obtain⟨a8,al⟩:=wK hI he hw;refine⟨0,gc.x,dx,fs,1,e,f.meth _ (by decide+kernel),?_⟩
   refine want_sp (E:=E0) O.go O.rel hI he hw λkd v H2 s2 ac hv=>b1 _ _ ?_;refine Qt λB2 b2=> ?_;obtain⟨q,ws,rfl,hq,w1,r1,rfl,⟨rfl,aN⟩,w2,r2,rfl,⟨rfl,aB⟩,h3⟩:=id hv;cases(show r2= [] from h3)
   refine⟨0,q,_,_,0,1,SqT.of hq,1,(sml rfl),λt ht=> ?_⟩;have s3:=qg ht (.tup [V.str "has",V.str "names"]);refine⟨t,0,.inr (SqT.of qf),1,1,0,?_⟩;refine iteN ((inHN kd).trans ac) (b2 _ _ ?_);refine Qt λB3 b3=> ?_;generalize upd H2 t (.tup [V.str "has",V.str "names"])=H3 at s3⊢;have U:=s2.trans s3;have aD:=s3 _ _ hq;have aE:SGI (⟨(n,p1)::r,don⟩:Sy.Ss (SyP qs)):=O.gi;refine⟨0,o.x,o.dx,0,U _ _ aa.e,Z2 o _ (by decide+kernel),?_⟩
   refine⟨0,q,_,_,0,1,SqT.of aD,1,o,m,qs,(⟨(n,p1)::r,don⟩:Sy.Ss (SyP qs)),uk,fk1,1,⟨U _ _ aa.e,aa.p.same U⟩,hB.q,aE,U _ _ aw,hU,U _ _ O.df,O.fd.mono U.tk,(by have:=O.len;omega),ap,λu H4 am k4 f4 d4 l4 aS y4=> ?_⟩
   have ad:Kp [o.df] H1 H4:=(Kp.of U).trans k4;have aF:H4 q=some (.tup [V.str kd,V.str m]):=k4.tk.tup _ _ aD;have aT:o.df∉plc gc s1:=λz=>(hB.new (au _ z)).2.2.2.2 rfl;have G4:GoAt a.qu a.ql H4 gc s1:=O.go.frame (λb hb ob h=>ad.kept b ob h (λz=>aT (by rw [<-List.mem_singleton.mp z];exact hb))) ad.tk
   obtain⟨ao,ae,a9,bb,bc,bd,e4,af,i4,j4,aG,bf⟩:=id G4;refine b3 _ _ ?_;refine Qt λB4 b4=> ?_;refine⟨0,1,0,?_⟩;unfold YetIs at y4;cases hy:Sy.yet (⟨(n,p1)::r,don⟩:Sy.Ss (SyP qs)) m with
   |none=>
    rw [hy] at y4;cases(show u= .non from y4)
    refine iteB (uc rfl) ⟨0,q,_,_,0,1,SqT.of aF,1,?_⟩;refine k _ H4 s1 p1 am ⟨O.st,(by rw [aS hy];exact O.len),λb ob h z=>ad.kept b ob (O.kp b ob h z) (λy=>z (by rw [List.mem_singleton.mp y];exact ud)),O.tk.trans ad.tk,f4,d4,G4,O.rel,O.pl,O.gi⟩ (.inr ⟨m,1,he,hw,hy⟩)
   |some oa=>
    rw [hy] at y4;obtain⟨d,hd,ha⟩:=y4;have sh:∃kk rr,d= .tup (.str kk::rr):=by
     cases oa with
     |none=>obtain⟨kk,rr,h,_⟩:=ha;exact⟨kk,rr,h⟩
     |some x=>cases x with
      |none=>exact⟨_,_,ha⟩
      |some y=>exact⟨_,_,ha⟩
    obtain⟨kk,rr,rfl⟩:=sh;obtain⟨qa,wa,rfl,ag,w1,r1,rfl,⟨rfl,aY⟩,h3⟩:=id hd;refine iteN (ue (λz=>by cases z)) (b4 _ _ ?_)
    refine⟨0,qa,_,_,0,1,SqT.of ag,QW (j:=0) rfl,1,0,?_⟩;have fin:∀(dd:D) (u:V),Is H4 dd u->AnsOk dd->Sy.nxt (⟨(n,p1)::r,don⟩:Sy.Ss (SyP qs))=⟨(n,jD p1 dd)::r,don⟩->zu a.qu a.ql a.qo g.ba [.ref gc.x,u] H4 (λ_ H5=>∃m',m'<Sy.mu (⟨(n,p1)::r,don⟩:Sy.Ss (SyP qs))/\J_ m' [some (.ref o.x),some (.ref gc.x),some (.ref q),some (.ref qa)] H5) E0:=λdd u hu hok ah=>by
     refine take_sp G4 O.rel hI he hu (λaQ r' e'=> ?_) ax (ak H4 λb ob h n=>ad.kept b ob h (λz=>n (by rw [List.mem_singleton.mp z];exact ud))) λH5 s5 w5 G5 R5 aU=> ?_
     ·rcases al with⟨h1,_⟩|⟨rs,rr,h1,h2⟩
      ·rw [h1] at e';cases e'
      ·rw [h1] at e';cases e';exact⟨"thing",_,h2,ansB_thing hok⟩
     ·have kq:∀b ob,H4 b=some ob->b∉plc gc s1->H5 b=some ob:=λb ob h n=>w5.kept b ob h (λy=>n (by rw [y];exact ud)) (λmc r' y=>by
       unfold plc at n;rw [y] at n;simp only [plcR,uB,uC,uM,UK] at n;exact⟨n.2.1,n.2.2.1,n.2.2.2⟩)
      obtain⟨m1,m2⟩:=O.more hB hK hL ad f4 d4 l4 kq w5.tk G5 R5 aU ah;exact⟨_,m2,s5,_,am,_,0,1,m1⟩
    cases oa with
    |some x=>
     have hok:=yet_ok hB.q aE hy;have ah:=nxt_tk he hw hy;cases x with
     |some y=>
      cases(show D.tup (.str kk::rr)= .tup [.str "value",y] from ha)
      obtain⟨w5,r5,rfl,h5,h6⟩:=h3;cases(show r5= [] from h6)
      refine iteB (uc rfl) ?_;exact⟨0,gc.x,ao,ae,1,e4,af.meth _ (by decide+kernel),0,qa,_,_,0,1,SqT.of ag,1,fin y w5 h5 hok ah⟩
     |none=>
      cases(show D.tup (.str kk::rr)= .tup [.str "lack"] from ha)
      refine iteN (by decide+kernel) ?_
      refine⟨0,qa,_,_,0,1,SqT.of ag,QW (j:=0) rfl,1,0,?_⟩;refine iteB (uc rfl) ?_;exact⟨0,gc.x,ao,ae,1,e4,af.meth _ (by decide+kernel),fin .non .non rfl hok ah⟩
    |none=>
     obtain⟨k2,r2,e5,c1,c2⟩:=ha;cases e5;refine iteN (ue (λz=>c1 (V.str.inj z))) ?_;refine⟨0,qa,_,_,0,1,SqT.of ag,QW (j:=0) rfl,1,0,?_⟩;refine iteN (ue (λz=>c2 (V.str.inj z))) ?_;refine⟨0,q,_,_,0,1,SqT.of aF,1,(sml rfl),λt5 aH=> ?_⟩;have s5:=qg aH (.tup [V.str "stuck",V.str m]);have aI:ae.length<1000:=by have:=af.len;omega
     refine⟨0,gc.x,_,ao,ae,1,s5 _ _ e4,T.qK,T.QP,aI,?_⟩;have aV:=Is.new (H:=H4) (ds:= [.str "stuck",.str m]) (p:=t5) ⟨_,0,YQ (by decide),_,0,⟨1,aB⟩,1⟩ aH
     obtain⟨g1,g2⟩:=wy (C:=a.qu) (CM:=a.ql) (g:=gc) (s:={s1 with en:= .tup [.str "stuck",.str m]}) (s5 _ _ e4) (af.set_end (u:= .ref t5)) (i4.mono s5.tk) (j4.mono s5.tk) (aG.same s5) aV
     have aJ:GRel gc {s1 with en:= .tup [.str "stuck",.str m]} (stkP p1 m):=⟨O.rel.n,O.rel.mb,O.rel.ra,O.rel.run,O.rel.own,1⟩
     have aW:Kp [o.df] H1 (upd H4 t5 (.tup [V.str "stuck",V.str m])):=ad.trans (Kp.of s5);obtain⟨m1,m2⟩:=O.more hB hK hL aW (s5 _ _ f4) (d4.mono s5.tk) l4 (λb ob h n=>g2.kept b ob h (λy=>n (by rw [y];exact ud))) g2.tk g1 aJ (λb hb=> .inl hb) (nxt_stk he hw hy)
     exact⟨_,m2,_,_,am,_,0,1,m1⟩
def J9 (CG CM:o3)(H:Hp)(ox:o3):oj (Gc×Gs)->oj (Str×Gp)->Prop
 | [],[]=>True
 |q::t,p::l=>GoAt CG CM H q.1 q.2/\GRel q.1 q.2 p.2/\q.1.o=ox/\J9 CG CM H ox t l
 |_,_=>False
noncomputable def plcs:oj (Gc×Gs)->oj o3
 | []=> []
 |q::t=>plc q.1 q.2++plcs t
def Sep:oj (Gc×Gs)->Prop
 | []=>True
 |q::t=>(∀b∈plc q.1 q.2,b∉plcs t)/\Sep t
theorem J9.frame {CG CM ox:o3}{H H':Hp}:∀{st:oj (Gc×Gs)}{l:oj (Str×Gp)},J9 CG CM H ox st l->(∀b∈plcs st,∀ob,H b=some ob->H' b=some ob)->Tk H H'->J9 CG CM H' ox st l
 | [],[],_,_,_=>trivial
 | [],_::_,h,_,_=>h.elim
 |_::_,[],h,_,_=>h.elim
 |q::t,p::l,⟨h1,h2,h3,h4⟩,hk,tk=>⟨h1.frame (λb O=>hk b (vC _ O)) tk,h2,h3,J9.frame h4 (λb O=>hk b (uL _ O)) tk⟩
theorem J9.there {CG CM ox:o3}{H:Hp}:∀{st:oj (Gc×Gs)}{l:oj (Str×Gp)},J9 CG CM H ox st l->∀b∈plcs st,∃ob,H b=some ob
 | [],[],_=>λb O=>by cases O
 | [],_::_,h=>h.elim
 |_::_,[],h=>h.elim
 |q::t,p::l,⟨h1,h2,h3,h4⟩=>λb O=>by
  rcases List.mem_append.mp O with O|O
  ·exact h1.there b O
  ·exact J9.there h4 b O
theorem J9.len {CG CM ox:o3}{H:Hp}:∀{st:oj (Gc×Gs)}{l:oj (Str×Gp)},J9 CG CM H ox st l->st.length=l.length
 | [],[],_=>rfl
 | [],_::_,h=>h.elim
 |_::_,[],h=>h.elim
 |q::t,p::l,⟨h1,h2,h3,h4⟩=>by rw [ui,ui,J9.len h4]
theorem lfts_len {Y:Sy}:∀l:oj (Str×Y.G),l.length<=Sy.lfts l
 | []=>ug _
 |(_,g)::r=>by
  have:=lfts_len r;show r.length+1<=Y.lft g+1+Sy.lfts r;omega
theorem mu_S0 {qs:oj (Str×D)}(U:YH qs)(n:Str):Sy.mu (Sy.S0 (SyP qs) n)<=20000:=by
 have aa:=U.2.2;have hr:∀S:Sy.Ss (SyP qs),(Sy.rest S).length<=60:=λS=>by
  have h1:(Sy.rest S).length<=(qs.map (·.1)).length:=List.length_filter_le _ _;rw [u9] at h1;omega
 unfold Sy.mu;have h2:=hr (Sy.S0 (SyP qs) n);have O:(SyP qs).M=302:=rfl;rw [O];have h4:Sy.lfts (Sy.S0 (SyP qs) n).stk<=303:=by
  unfold Sy.S0;cases hg:(SyP qs).g0 n with
  |none=>exact uW _
  |some g=>
   have:=(je qs).l0 n g hg;show(SyP qs).lft g+1+0<=303;have O:(SyP qs).M=302:=rfl;omega
 omega
structure OI {qs:oj (Str×D)}(CG CM:o3)(H0 H:Hp)(o:Oc)(n0:Str)(S:Sy.Ss (SyP qs))(st:oj (Gc×Gs))(uk rk fk:oj (Key×V)):Prop where
 kp:Kp (LO o) H0 H
 nx:∃j,S=Sy.nx (Sy.S0 (SyP qs) n0) j
 ls:H o.ls=some (.lst (st.reverse.map λq=>V.ref q.1.x))
 du:H o.du=some (.dK uk)
 uo:UkOk S uk
 ul:uk.length+Sy.mu S<=20001
 dr:H o.dr=some (.dK rk)
 rks:rk.map (·.1)=S.don.map λp=>Sum.inr p.1
 rv:L2.IsL H (S.don.map λp=>Yx p.2) (rk.map (·.2))
 rl:S.don.length+Sy.mu S<=20001
 df:H o.df=some (.dK fk)
 fd:FdOk H S fk
 fl:fk.length+Sy.mu S<=20001
 stk:J9 CG CM H o.x st S.stk
 new:∀b∈plcs st,H0 b=none
 sep:Sep st
 gi:SGI S
 fin:∀q∈S.don,(Gp.en q.2).isSome=true
 nd:(S.stk.map (·.1)++S.don.map (·.1)).Nodup
theorem S0_nd {qs:oj (Str×D)}(n:Str)(j:Nat):((Sy.nx (Sy.S0 (SyP qs) n) j).stk.map (·.1)++(Sy.nx (Sy.S0 (SyP qs) n) j).don.map (·.1)).Nodup:=by
 cases O:(SyP qs).g0 n with
 |some g=>exact(Sy.nx_ok (je qs) (Sy.S0_ok O) j).nd
 |none=>
  have e:Sy.nx (Sy.S0 (SyP qs) n) j=⟨[],[]⟩:=by
   have U:Sy.S0 (SyP qs) n=⟨[],[]⟩:=by unfold Sy.S0;rw [O]
   rw [U]
   induction j with
   |zero=>rfl
   |succ j ih=>show Sy.nxt _=_;rw [ih];rfl
  rw [e];exact vZ
def sp_thru (CO CP:o3):Sp:=λvs H Q _=>∃(o:Oc) (qs:oj (Str×D)) (n:Str),vs= [.ref o.x,.str n]/\Bs CO CP H o qs/\H o.ls=some (.lst [])/\H o.du=some (.dK [])/\H o.dr=some (.dK [])/\H o.df=some (.dK [])/\
 ∀(H':Hp) (rk:oj (Key×V)) (don:oj (Str×Gp)) (j:Nat),Kp (LO o) H H'->Sy.nx (Sy.S0 (SyP qs) n) j=⟨[],don⟩->H' o.dr=some (.dK rk)->(rk.map (·.1)=don.map λp=>Sum.inr p.1)->L2.IsL H' (don.map λp=>Yx p.2) (rk.map (·.2))->(∀p∈don,GI p.2/\p.2.en.isSome=true)->don.length<=20001->Q .non H'
theorem W6 {α:Type}{xs:oj α}{x:α}:atI (xs++ [x]) (-1)=some x:=by
 unfold atI ixN;have O:(xs++ [x]).length=xs.length+1:=by simp
 rw [if_neg (by decide),if_pos (by omega)]
 show(xs++ [x])[(-1+((xs++ [x]).length:Int)).toNat]? =some x;rw [show(-1+((xs++ [x]).length:Int)).toNat=xs.length by omega]
 simp
theorem nx_add {Y:Sy}(S:Sy.Ss Y)(i:Nat):∀j,Sy.nx S (i+j)=Sy.nx (Sy.nx S i) j
 |0=>rfl
 |j+1=>by show Sy.nxt (Sy.nx S (i+j))=Sy.nxt (Sy.nx (Sy.nx S i) j);rw [nx_add S i j]
theorem nx_le {qs:oj (Str×D)}(S:Sy.Ss (SyP qs)):∀j,Sy.mu (Sy.nx S j)<=Sy.mu S
 |0=>ug _
 |j+1=>by
  have h:=nx_le S j;show Sy.mu (Sy.nxt (Sy.nx S j))<=_;by_cases c:(Sy.nx S j).stk= []
  ·have e:Sy.nxt (Sy.nx S j)=Sy.nx S j:=by unfold Sy.nxt;rw [c]
   rw [e];exact h
  ·have:=Sy.nxt_mu (je qs) c;omega
theorem ok_thru (T:Tx K mg a)(C:Fx K w mg g a):FnOk P w K mg base CX0 13 a.yn a.ym ["self","name"] (sp_thru a.qo a.qH):=by
 have QC:=ok_yet (P:=P) (w:=w) (base:=base) T;have Yn:=ok_enter (P:=P) (w:=w) (base:=base) T C;have xB:=ok_gon (P:=P) (w:=w) (base:=base) T C;have JA:=ok_settle (P:=P) (w:=w) (base:=base) T;refine T.g_PlainOrder_go_through.F.ok QB () (λ_ _ _ _ H _ Q E hr h=> ?_)
 obtain⟨o,qs,n,rfl,hB,bF,bo,bG,bH,k⟩:=h;have hs:=uA;have hO:=hB.oa;refine⟨_,#[qc,5,#[qI,8,#[qr,8,yT,#[Qr,20,pv 0,T.qv,T.g_PlainOrder_answer_yet.h,QC,hr.mono (),T.g_PlainOrder_answer_yet.b,.nil,qB,#[qb,5,pv 1,qd,_],_,_,_],qQ,qz _],#[qe,3,#[qU,4,#[Qr,20,pv 0,T.qv,T.g_PlainOrder_enter.h,Yn,hr.mono (),T.g_PlainOrder_enter.b,.nil,qB,#[qb,5,pv 1,qd,_],_,_,_],_]],qw],#[qe,3,#[zB,6,v6,#[pt_truth,3,#[qG,5,pv 0,rfl],(λ_=>rfl)],#[qc,5,#[qC,2,(2),4,QB.nd,rfl,Or.inl rfl,#[qL,7,Yz,#[qG,5,pv 0,rfl],#[pe_un,6,un_neg,qk],(λ_ _=>rfl)],_,_],#[qc,5,#[qC,2,(3),4,QB.nd,rfl,Or.inl rfl,#[Qr,20,pv 0,T.qv,T.g_PlainOrder_go_on.h,xB,hr.mono (),T.g_PlainOrder_go_on.b,.nil,qB,#[qb,5,pv 2,qd,_],_,_,_],_,_],#[qe,3,#[qI,8,#[qr,8,yT,pv 3,qQ,qz _],#[qc,5,#[qU,4,#[pe_bm0,9,uY,PySem.F.slot_list_pop,PySem.F.type_list_pop,mt_pop,#[qG,5,pv 0,rfl],_,_],_],#[qc,5,#[qU,4,#[pe_dpop1,7,#[qG,5,pv 0,rfl],#[qG,5,pv 2,rfl],⟨1,1,1,1⟩],_],#[qe,3,#[qU,4,#[Qr,20,pv 0,T.qv,T.g_PlainOrder_settle.h,JA,hr.mono (),T.g_PlainOrder_settle.b,.nil,qB,#[qb,5,pv 2,qd,_],_,_,_],_]]]],#[qe,3,#[qU,4,#[Qr,20,pv 0,T.qv,T.g_PlainOrder_enter.h,Yn,hr.mono (),T.g_PlainOrder_enter.b,.nil,qB,#[qb,5,pv 3,qd,_],_,_,_],_]]]]]]]]],?_⟩
 try dsimp only [cxOf,Cx.nox]
 have bI:=mu_S0 hB.q n;refine Qt λN hN=> ?_;have bJ:∀(H1:Hp) (S:Sy.Ss (SyP qs)) (st:oj (Gc×Gs)) (uk rk fk:oj (Key×V)),OI a.qu a.ql H H1 o n S st uk rk fk->N [some (.ref o.x),some (.str n),none,none] H1:=by
  intro H1 S st uk rk fk h1;refine hN _ _ ?_
  let J_:Nat->L2.St->Hp->Prop:=λmm σ H2=>∃(S:Sy.Ss (SyP qs)) (st:oj (Gc×Gs)) (uk rk fk:oj (Key×V)) (u3 u4:om V),σ= [some (.ref o.x),some (.str n),u3,u4]/\mm=Sy.mu S/\OI a.qu a.ql H H2 o n S st uk rk fk
  refine⟨J_,⟨_,S,st,uk,rk,fk,none,none,1,1,h1⟩,?_⟩;clear h1 bo bG bH bF;rintro mm σ H2 ⟨S,st,uk,rk,fk,u3,u4,rfl,rfl,hI⟩;have bp:=hB.at hI.kp;refine⟨0,o.x,_,o.dx,_,0,bp.e,T.qv,T.Qv,of_st o,_,.inl ⟨_,SqL.of hI.ls,1⟩,?_⟩;obtain⟨(stk:oj (Str×Gp)),(don:oj (Str×Gp))⟩:=S;have ax:J9 a.qu a.ql H2 o.x st stk:=hI.stk;cases st with
  |nil=>
   cases stk with
   |cons p l=>exact ax.elim
   |nil=>
    refine iteN rfl ?_;obtain⟨j,hj⟩:=hI.nx;exact k H2 rk don j hI.kp hj.symm hI.dr hI.rks hI.rv (λp hp=>⟨(hI.gi p (.inr hp)).1,hI.fin p hp⟩) (by have:=hI.rl;have e:((⟨[],don⟩:Sy.Ss (SyP qs)).don).length=don.length:=rfl;omega)
  |cons q t=>
   obtain⟨gc,gs⟩:=q;cases stk with
   |nil=>exact ax.elim
   |cons p l=>
    obtain⟨O,p⟩:=p;obtain⟨hG,bq,bK,hT⟩:=ax;have hG:GoAt a.qu a.ql H2 gc gs:=hG;have bq:GRel gc gs p:=bq;have am:H2 o.ls=some (.lst ((t.reverse.map λq=>V.ref q.1.x)++ [V.ref gc.x])):=by
     have:=hI.ls;rw [UF,uu] at this;exact this
    refine iteB (by rw [UF,uu];show(!((List.map _ t.reverse)++ [V.ref gc.x]).isEmpty)=true;simp) ?_
    refine⟨λσ' H'=>∃m',m'<Sy.mu (⟨(O,p)::l,don⟩:Sy.Ss (SyP qs))/\J_ m' σ' H',λ_ _ h=>h,?_⟩;refine Qt λB1 b1=> ?_;refine⟨0,o.x,_,o.dx,_,0,bp.e,T.qv,T.Qv,of_st o,0,o.ls,_,_,0,1,SqL.of am,W6,b1 _ _ ?_⟩;refine Qt λB2 b2=> ?_;have ao:∀b∈plc gc gs,H b=none:=λb U=>hI.new b (vC _ U);have ac:∀b∈plcs t,H b=none:=λb U=>hI.new b (uL _ U);have bL:∃j,(⟨(O,p)::l,don⟩:Sy.Ss (SyP qs))=Sy.nx (⟨(O,p)::l,don⟩:Sy.Ss (SyP qs)) j:=⟨(0),1⟩;refine⟨0,o.x,o.dx,0,bp.e,Z2 o _ (by decide+kernel),0,H,o,qs,gc,gs,O,p,l,don,uk,fk,(20001),1,hB,hI.kp,hI.du,hI.uo,hI.fin,by decide,bK,ao,⟨bL,hI.fl,λ_ _ h _=>h,Tk.refl _,hI.df,hI.fd,hG,bq,λb U=> .inl U,hI.gi⟩,λv H3 ak p3 ad hR hv=> ?_⟩
    have aW:Sy.mu (⟨(O,p3)::l,don⟩:Sy.Ss (SyP qs))<=Sy.mu (⟨(O,p)::l,don⟩:Sy.Ss (SyP qs)):=by
     obtain⟨j,hj⟩:=hR.st;have hj:(⟨(O,p3)::l,don⟩:Sy.Ss (SyP qs))=Sy.nx (⟨(O,p)::l,don⟩:Sy.Ss (SyP qs)) j:=hj;rw [hj];exact nx_le _ _
    have bM:∃j,(⟨(O,p3)::l,don⟩:Sy.Ss (SyP qs))=Sy.nx (Sy.S0 (SyP qs) n) j:=by
     obtain⟨j,hj⟩:=hR.st;obtain⟨i,hi⟩:=hI.nx;have hj:(⟨(O,p3)::l,don⟩:Sy.Ss (SyP qs))=Sy.nx (⟨(O,p)::l,don⟩:Sy.Ss (SyP qs)) j:=hj;exact⟨i+j,by rw [nx_add,<-hi];exact hj⟩
    have ap:Kp (LO o) H H3:=kp_more hB hI.kp hR.kp hR.tk ao;have ay:=hB.at ap;have aq:∀b∈plc gc ak,H b=none:=λb U=>(hR.pl b U).elim (ao b) (·.2);have out:∀b,b∈LO o->b≠o.df->b∉o.df::plc gc gs:=λb U hn z=>by
     rcases List.mem_cons.mp z with z|z
     ·exact hn z
     ·exact hB.nlo (ao b z) U
    have b4:o.ls≠o.du/\o.ls≠o.dr/\o.ls≠o.df/\o.du≠o.dr/\o.du≠o.df/\o.dr≠o.df:=by
     have h:=hB.nd;simp only [LO,UB,uB,uC,uM,UK,vZ,and_true,not_false_eq_true] at h;exact⟨h.1.1,h.1.2.1,h.1.2.2,h.2.1.1,h.2.1.2,h.2.2⟩
    obtain⟨d1,d2,d3,d4,d5,d6⟩:=b4;have af:=hR.kp _ _ am (out _ (by simp [LO]) d3)
    have aA:=hR.kp _ _ hI.du (out _ (by simp [LO]) d5)
    have aB:=hR.kp _ _ hI.dr (out _ (by simp [LO]) d6)
    have bt:J9 a.qu a.ql H3 o.x t l:=hT.frame (λb U ob h=>hR.kp b ob h (λz=>by
     rcases List.mem_cons.mp z with z|z
     ·exact(hB.new (ac b U)).2.2.2.2 z
     ·exact hI.sep.1 b z U)) hR.tk
    have bu:∀b∈plc gc ak,b∉plcs t:=λb U z=>by
     rcases hR.pl b U with U|⟨U,_⟩
     ·exact hI.sep.1 b U z
     ·obtain⟨ob,e⟩:=hT.there b z;rw [e] at U;cases U
    have b5:GI p3:=(hR.gi (O,p3) (.inl ud)).1;have aX:p3.n=O:=(hR.gi (O,p3) (.inl ud)).2;have bN:=hI.ul;have bO:=hR.len;have b6:=hI.rl;have cp:don.length+Sy.mu (⟨(O,p)::l,don⟩:Sy.Ss (SyP qs))<=20001:=b6;have b7:ad.length+Sy.mu (⟨(O,p3)::l,don⟩:Sy.Ss (SyP qs))<=20001:=bO;have aC:=Sy.nxt_mu (je qs) (S:=(⟨(O,p3)::l,don⟩:Sy.Ss (SyP qs))) (by intro z;cases z)
    have cq:rk.length=don.length:=by
     have:=congrArg List.length hI.rks;rw [u9,u9] at this;exact this
    have aD:H3 o.df=some (.dK ad):=hR.df;have aO:GoAt a.qu a.ql H3 gc ak:=hR.go;have ag:GRel gc ak p3:=hR.rel;have aY:FdOk H3 (⟨(O,p3)::l,don⟩:Sy.Ss (SyP qs)) ad:=hR.fd;have aZ:SGI (⟨(O,p3)::l,don⟩:Sy.Ss (SyP qs)):=hR.gi;obtain⟨i3,aP⟩:=bM;refine b2 _ _ ?_;refine⟨0,1,0,?_⟩;rcases hv with⟨rfl,au⟩|⟨m,rfl,au,hw,hy⟩
    ·
     refine iteB (uc rfl) ?_;refine Qt λC1 c1=> ?_;obtain⟨d,hd⟩:∃d,p3.en=some d:=by
      cases h:p3.en with
      |none=>rw [h] at au;cases au
      |some d=>exact⟨d,1⟩
     have ae:=nxt_pop (qs:=qs) (n:=O) (r:=l) (don:=don) hd;refine⟨0,o.x,_,o.dx,_,0,ay.e,T.qv,T.Qv,of_st o,.inl ⟨1,_,SqL.of af⟩,?_⟩;refine⟨o.ls,_,V.ref gc.x,1,1,af,by simp,?_⟩
     rw [List.dropLast_concat];have aa:Kp [o.ls,o.du] H3 (upd H3 o.ls (.lst (t.reverse.map λq=>V.ref q.1.x))):=⟨λb ob h n=>by rw [qh (λz=>n (by rw [z];exact ud))];exact h,Kept.tk (p:=o.ls) (λb ob h n=>by rw [qh n];exact h) af qf⟩
     obtain⟨H4,aE⟩:∃H4,H4=upd H3 o.ls (.lst (t.reverse.map λq=>V.ref q.1.x)):=⟨0⟩;rw [<-aE] at aa⊢;refine c1 _ _ ?_;refine Qt λC2 c2=> ?_;have e4:H4 o.x=some (.ins a.qo o.dx (ofs o)):=by rw [aE,qh (λz=>by have:=ay.e;rw [z,af] at this;cases this)];exact ay.e
     have aF:H4 o.ls=some (.lst (t.reverse.map λq=>V.ref q.1.x)):=by rw [aE];exact qf
     have al:H4 o.du=some (.dK uk):=by rw [aE,qh d1.symm];exact aA
     have bP:∀b,H b=none->b≠o.ls:=λb U=>(hB.new U).2.1;have b8:GoAt a.qu a.ql H4 gc ak:=aO.frame (λb U ob h=>by rw [aE,qh (bP b (aq b U))];exact h) aa.tk
     obtain⟨b9,ca,cr,cs,cu,cv,cb,f4,_⟩:=id b8;have aG:(valV uk (Sum.inr gc.n)).isSome=true:=by
      rw [ag.n,aX];exact(hI.uo O).trans (uc ud)
     obtain⟨uv,cc⟩:∃uv,valV uk (Sum.inr gc.n)=some uv:=by
      cases h:valV uk (Sum.inr gc.n) with
      |none=>rw [h] at aG;cases aG
      |some uv=>exact⟨uv,1⟩
     refine⟨0,o.x,_,o.dx,_,0,e4,T.qv,T.Qo,of_uw o,o.du,1,.inl ⟨_,.inl al⟩,0,gc.x,_,b9,ca,0,cb,T.qK,T.yH,f4.XO,uk,Sum.inr gc.n,uv,al,1,cc,?_⟩;have ah:Kp [o.ls,o.du] H3 (upd H4 o.du (.dK (jy uk (Sum.inr gc.n)))):=aa.trans (Kp.updD al (ub _ ud));obtain⟨H5,bv⟩:∃H5,H5=upd H4 o.du (.dK (jy uk (Sum.inr gc.n))):=⟨0⟩;rw [<-bv] at ah⊢;refine c2 _ _ ?_;have bQ:H5 o.du=some (.dK (jy uk (Sum.inr gc.n))):=by rw [bv];exact qf
     have bR:H5 o.ls=some (.lst (t.reverse.map λq=>V.ref q.1.x)):=by rw [bv,qh d1];exact aF
     have aH:∀b,H b=none->b∉ [o.ls,o.du]:=λb U z=>by
      simp only [uB,uC,uM] at z;rcases z with z|z
      ·exact(hB.new U).2.1 z
      ·exact(hB.new U).2.2.1 z
     have cd:GoAt a.qu a.ql H5 gc ak:=aO.frame (λb U ob h=>ah.kept b ob h (aH b (aq b U))) ah.tk;have bS:H5 o.dr=some (.dK rk):=ah.kept _ _ aB (by simp only [uB,uC,uM,UK];exact⟨d2.symm,d4.symm⟩)
     have bT:H5 o.df=some (.dK ad):=ah.kept _ _ aD (by simp only [uB,uC,uM,UK];exact⟨d3.symm,d5.symm⟩)
     have aQ:∀b,b∉LO o->b∉ [o.ls,o.du]:=λb U z=>U (by simp only [LO,uB,uC,uM] at z⊢;rcases z with z|z;exact .inl z;exact .inr (.inl z))
     have bw:Kp (LO o) H H5:=⟨λb ob h n=>ah.kept b ob (ap.kept b ob h n) (aQ b n),ap.tk.trans ah.tk⟩;have bU:=hB.at bw;refine⟨0,o.x,o.dx,0,bU.e,Z2 o _ (by decide+kernel),0,o,qs,gc,ak,p3,rk,ad,1,bU,cd,ag,b5,au,bS,by omega,bT,by omega,d6,λz=>(hB.new (aq _ z)).2.2.2.1 rfl,λz=>(hB.new (aq _ z)).2.2.2.2 rfl,λv1 v2 H6 aw aI i6 bb j6=> ?_⟩
     have bV:∀b,b∉LO o->b∉ [o.dr,o.df]:=λb U z=>U (by simp only [LO,uB,uC,uM] at z⊢;rcases z with z|z;exact .inr (.inr (.inl z));exact .inr (.inr (.inr z)))
     have ce:∀b,H b=none->b∉ [o.dr,o.df]:=λb U=>bV b (hB.nlo U);have cf:Kp (LO o) H H6:=⟨λb ob h n=>aw.kept b ob (bw.kept b ob h n) (bV b n),bw.tk.trans aw.tk⟩;have aJ:Tk H3 H6:=ah.tk.trans aw.tk;have bx:gc.n=O:=ag.n.trans aX;have aR:((⟨(O,p3)::l,don⟩:Sy.Ss (SyP qs)).stk.map (·.1)++(⟨(O,p3)::l,don⟩:Sy.Ss (SyP qs)).don.map (·.1)).Nodup:=by
      rw [aP];exact S0_nd n i3
     have bc:(O::(l.map (·.1)++don.map (·.1))).Nodup:=aR;have aK:O∉don.map (·.1):=λz=>(List.nodup_cons.mp bc).1 (uL _ z);have bA:O∉l.map (·.1):=λz=>(List.nodup_cons.mp bc).1 (vC _ z);have cg:valV rk (Sum.inr O)=none:=by
      cases h:valV rk (Sum.inr O) with
      |none=>rfl
      |some v=>
       have h1:=valV_in h;rw [hI.rks] at h1;obtain⟨q,hq,e⟩:=List.mem_map.mp h1;injection e with e
       exact absurd (List.mem_map.mpr ⟨q,hq,e⟩) aK
     rw [bx] at aI bb;rw [putK_new v1 cg] at aI;have bW:uk.length+Sy.mu (⟨(O,p)::l,don⟩:Sy.Ss (SyP qs))<=20001:=bN;have cw:=dropK_le uk (Sum.inr gc.n:Key);have ch:=yy ad (Sum.inr O:Key) v2;have a1:UkOk (⟨l,don++ [(O,p3)]⟩:Sy.Ss (SyP qs)) (jy uk (Sum.inr gc.n)):=by
      intro m';rw [Zy];by_cases c:m'=O
      ·rw [if_pos (by rw [c,bx]),c]
       exact(ue bA).symm
      ·rw [if_neg (by rw [bx];exact λz=>c (Ub z))]
       refine(hI.uo m').trans ?_;rw [uR];exact⟨λz=>by rcases List.mem_cons.mp z with z|z;exact absurd z c;exact z,λz=>ub _ z⟩
     have a2:(rk++ [((Sum.inr O:Key),v1)]).map (·.1)=(don++ [(O,p3)]).map λq:Str×Gp=>(Sum.inr q.1:Key):=by
      rw [uu,uu];have:=hI.rks;rw [this]
      rfl
     have a3:L2.IsL H6 ((don++ [(O,p3)]).map λq:Str×Gp=>Yx q.2) ((rk++ [((Sum.inr O:Key),v1)]).map (·.2)):=by
      rw [uu,uu];exact((hI.rv.mono (hR.tk.trans aJ))).append (L2.IsL.one i6)
     have a4:(don++ [(O,p3)]).length=don.length+1:=by rw [uD];rfl
     have a5:∀(m':Str) (g':Gp),g0D m' (qW qs m')=some g'->(∀g2:Gp,Sy.jT (Y:=SyP qs) (don++ [(O,p3)]) m'=some g2->∃v,valV (putK ad (Sum.inr O) v2) (Sum.inr m')=some v/\Is H6 (J8 (g2.en.getD .non)) v)/\(Sy.jT (Y:=SyP qs) (don++ [(O,p3)]) m'=none->valV (putK ad (Sum.inr O) v2) (Sum.inr m')=none):=by
      intro m' g' ci;rw [xi];by_cases c:m'=O
      ·have aL:Sy.jT (Y:=SyP qs) (don++ [(O,p3)]) m'=(some p3:om Gp):=by
        have e1:(don.find? λq=>decide (q.1=m'))=none:=List.find?_eq_none.mpr λq hq e=>aK (by rw [<-c,<-uh e];exact List.mem_map_of_mem hq)
        have e2:((don++ [(O,p3)]).find? λq:Str×Gp=>decide (q.1=m'))=some (O,p3):=by rw [List.find?_append,e1,c];simp
        show((don++ [(O,p3)]).find? λq:Str×Gp=>decide (q.1=m')).map (·.2)=some p3;rw [e2]
        rfl
       refine⟨λg2 e2=> ?_,λz=> ?_⟩
       ·have e3:=aL.symm.trans e2;cases e3;rw [if_pos (by rw [c])]
        exact⟨v2,1,j6⟩
       ·have e3:=aL.symm.trans z;cases e3
      ·have aL:Sy.jT (Y:=SyP qs) (don++ [(O,p3)]) m'=Sy.jT (Y:=SyP qs) don m':=by
        have e2:((don++ [(O,p3)]).find? λq:Str×Gp=>decide (q.1=m'))=don.find? λq:Str×Gp=>decide (q.1=m'):=by
         rw [List.find?_append];have:([(O,p3)].find? λq:Str×Gp=>decide (q.1=m'))=none:=by simp;exact λz=>c z.symm
         rw [this,Option.or_none]
        show((don++ [(O,p3)]).find? λq:Str×Gp=>decide (q.1=m')).map (·.2)=(don.find? λq:Str×Gp=>decide (q.1=m')).map (·.2);rw [e2]
       rw [if_neg (λz=>c (Ub z))];have aM:(∀g2:Gp,Sy.jT (Y:=SyP qs) don m'=some g2->∃v,valV ad (Sum.inr m')=some v/\Is H6 (J8 (g2.en.getD .non)) v)/\(Sy.jT (Y:=SyP qs) don m'=none->valV ad (Sum.inr m')=none):=(aY.mono aJ) m' g' ci;exact⟨λg2 e2=>aM.1 g2 (aL.symm.trans e2),λz=>aM.2 (aL.symm.trans z)⟩
     have a6:J9 a.qu a.ql H6 o.x t l:=bt.frame (λb U ob h=>aw.kept b ob (ah.kept b ob h (aH b (ac b U))) (ce b (ac b U))) aJ;have a7:∀q∈don++ [(O,p3)],q.2.en.isSome=true:=by
      intro q hq;rcases List.mem_append.mp hq with hq|hq
      ·exact hI.fin q hq
      ·cases List.mem_singleton.mp hq;exact au
     have eN:Sy.nx (Sy.S0 (SyP qs) n) (i3+1)=Sy.nxt (⟨(O,p3)::l,don⟩:Sy.Ss (SyP qs)):=by show Sy.nxt (Sy.nx _ i3)=_;rw [<-aP]
     have a8:=S0_nd (qs:=qs) n (i3+1);rw [eN] at a8;have a9:=nxt_gi hB.q aZ;have bB:OI a.qu a.ql H H6 o n (Sy.nxt (⟨(O,p3)::l,don⟩:Sy.Ss (SyP qs))) t (jy uk (Sum.inr gc.n)) (rk++ [(Sum.inr O,v1)]) (putK ad (Sum.inr O) v2):=by
      refine⟨cf,⟨i3+1,eN.symm⟩,aw.kept _ _ bR (by simp only [uB,uC,uM,UK];exact⟨d2,d3⟩),aw.kept _ _ bQ (by simp only [uB,uC,uM,UK];exact⟨d4,d5⟩),?_,by omega,aI,?_,?_,?_,bb,?_,by omega,?_,ac,hI.sep.2,a9,?_,a8⟩
      ·rw [ae];exact a1
      ·rw [ae];exact a2
      ·rw [ae];exact a3
      ·have e:(Sy.nxt (⟨(O,p3)::l,don⟩:Sy.Ss (SyP qs))).don.length=don.length+1:=by rw [ae];exact a4
       omega
      ·rw [ae];exact a5
      ·rw [ae];exact a6
      ·rw [ae];exact a7
     exact⟨_,Nat.lt_of_lt_of_le aC aW,_,t,_,_,_,_,0,1,bB⟩
    ·
     refine iteN (ue (λz=>by cases z)) ?_
     obtain⟨p',cj,ae⟩:=nxt_push (qs:=qs) au hw hy;rw [ae] at aC;obtain⟨y1,_,y3⟩:=Sy.xq hy;have bX:=lfts_len (Y:=SyP qs) ((O,p3)::l);have aS:((O,p3)::l).length<=Sy.mu (⟨(O,p3)::l,don⟩:Sy.Ss (SyP qs)):=uQ bX (UI _ _);have cx:t.length=l.length:=hT.len;have bW:uk.length+Sy.mu (⟨(O,p)::l,don⟩:Sy.Ss (SyP qs))<=20001:=bN;refine⟨0,o.x,o.dx,0,ay.e,Z2 o _ (by decide+kernel),0,o,m,qs,_,uk,p',1,ay,hB.q,af,?_,aA,by omega,cj,λgn sn H4 aa aF al bC bD bE aT=> ?_⟩
     ·rw [uD,u9,List.length_reverse,vK];rw [ui] at aS;omega
     have aQ:∀b,b∉LO o->b∉ [o.ls,o.du]:=λb U z=>U (by simp only [LO,uB,uC,uM] at z⊢;rcases z with z|z;exact .inl z;exact .inr (.inl z))
     have ck:Kp (LO o) H H4:=⟨λb ob h n=>aa.kept b ob (ap.kept b ob h n) (aQ b n),ap.tk.trans aa.tk⟩;have aH:∀b,H b=none->b∉ [o.ls,o.du]:=λb U=>aQ b (hB.nlo U);have aN:∀b∈plc gn sn,H b=none:=λb U=>by
      have h3:=aT b U;cases h:H b with
      |none=>rfl
      |some ob=>
       by_cases c:b∈LO o
       ·simp only [LO,uB,uC,uM] at c;rcases c with rfl|rfl|rfl|rfl
        ·rw [af] at h3;cases h3
        ·rw [aA] at h3;cases h3
        ·rw [aB] at h3;cases h3
        ·rw [aD] at h3;cases h3
       ·rw [ap.kept b ob h c] at h3;cases h3
     refine⟨_,Nat.lt_of_lt_of_le aC aW,⟨(m,p')::(O,p3)::l,don⟩,(gn,sn)::(gc,ak)::t,putK uk (Sum.inr m) (.bl true),rk,ad,_,0,1,?_⟩;have ch:=yy uk (Sum.inr m:Key) (.bl true);refine⟨ck,⟨i3+1,by show _=Sy.nxt (Sy.nx _ i3);rw [<-aP,ae]⟩,?_,al,?_,by omega,aa.kept _ _ aB (by simp only [uB,uC,uM,UK];exact⟨d2.symm,d4.symm⟩),hI.rks,hI.rv.mono (hR.tk.trans aa.tk),?_,aa.kept _ _ aD (by simp only [uB,uC,uM,UK];exact⟨d3.symm,d5.symm⟩),?_,by omega,?_,?_,?_,?_,hI.fin,?_⟩
     ·rw [aF,UF,UF,uu,uu]
      rfl
     ·intro m';rw [xi];by_cases c:m'=m
      ·rw [if_pos (by rw [c])]
       exact(uc (by rw [c];exact ud)).symm
      ·rw [if_neg (λz=>c (Ub z))];refine(hI.uo m').trans ?_;rw [uR];exact⟨λz=>ub _ z,λz=>by rcases List.mem_cons.mp z with z|z;exact absurd z c;exact z⟩
     ·show don.length+_<=_;omega
     ·exact aY.mono aa.tk
     ·exact⟨bC,bD,bE,aO.frame (λb U ob h=>aa.kept b ob h (aH b (aq b U))) aa.tk,ag,bK,bt.frame (λb U ob h=>aa.kept b ob h (aH b (ac b U))) aa.tk⟩
     ·intro b U;rcases List.mem_append.mp U with U|U
      ·exact aN b U
      ·rcases List.mem_append.mp U with U|U
       ·exact aq b U
       ·exact ac b U
     ·refine⟨λb U z=> ?_,bu,hI.sep.2⟩;have h3:=aT b U;rcases List.mem_append.mp z with z|z
      ·obtain⟨ob,e⟩:=aO.there b z;rw [e] at h3;cases h3
      ·obtain⟨ob,e⟩:=bt.there b z;rw [e] at h3;cases h3
     ·have:=nxt_gi hB.q aZ;rw [ae] at this;exact this
     ·have:=S0_nd (qs:=qs) n (i3+1);have e:Sy.nx (Sy.S0 (SyP qs) n) (i3+1)=⟨(m,p')::(O,p3)::l,don⟩:=by show Sy.nxt (Sy.nx _ i3)=_;rw [<-aP,ae]
      rw [e] at this;exact this
 have u0:UkOk (⟨[],[]⟩:Sy.Ss (SyP qs)) []:=λm=>by rw [Wv];rfl
 have f0:FdOk H (⟨[],[]⟩:Sy.Ss (SyP qs)) []:=λm g hg=>⟨(λg' e=>by cases e),λ_=>Wv⟩
 have g0:SGI (⟨[],[]⟩:Sy.Ss (SyP qs)):=λp hp=>by rcases hp with hp|hp<;>cases hp
 refine⟨0,o.x,o.dx,0,hO.e,Z2 o _ (by decide+kernel),0,o,n,qs,(⟨[],[]⟩:Sy.Ss (SyP qs)),[],[],1,hO,hB.q,g0,bo,u0,bH,f0,by decide,(λ_ z=>by cases z),λv H1 fk1 k1 f1 d1 l1 bY y1=> ?_⟩
 have aR:=hB.nd;simp only [LO,UB,uB,uC,uM,UK,vZ,and_true,not_false_eq_true] at aR;obtain⟨⟨n1,n2,n3⟩,⟨n4,n5⟩,n6⟩:=aR;have aU:∀b,b≠o.df->b∉ [o.df]:=λb U z=>U (List.mem_singleton.mp z);have aV:Kp (LO o) H H1:=⟨λb ob h z=>k1.kept b ob h (λy=>z (by rw [List.mem_singleton.mp y];simp [LO])),k1.tk⟩
 have bZ:=hB.at aV;have bd:=k1.kept _ _ bF (aU _ n3);have bf:=k1.kept _ _ bo (aU _ n5);have bg:=k1.kept _ _ bG (aU _ n6);refine⟨1,0,?_⟩;unfold YetIs at y1;cases hg:(SyP qs).g0 n with
 |none=>
  have ey:Sy.yet (⟨[],[]⟩:Sy.Ss (SyP qs)) n=some (some ((SyP qs).once n)):=by
   unfold Sy.yet;rw [if_neg (by intro z;cases z),hg]
  rw [ey] at y1;obtain⟨d,i1,i2⟩:=y1;have cm:d≠ .non:=by
   cases h:(SyP qs).once n with
   |none=>rw [h] at i2;intro z;rw [z] at i2;cases i2
   |some x=>rw [h] at i2;intro z;rw [z] at i2;cases i2
  refine iteN (ue (Xp i1 cm)) ?_;have e0:Sy.S0 (SyP qs) n=⟨[],[]⟩:=by unfold Sy.S0;rw [hg]
  rw [e0] at bI;have l1:fk1.length<=0+1:=l1;exact bJ H1 ⟨[],[]⟩ [] [] [] fk1 ⟨aV,⟨(0),e0.symm⟩,bd,bf,u0,(by show 0+_<=_;omega),bg,1,1,(by show 0+_<=_;omega),f1,d1,by omega,trivial,(λb U=>by cases U),trivial,g0,(λq hq=>by cases hq),vZ⟩
 |some p=>
  have ey:Sy.yet (⟨[],[]⟩:Sy.Ss (SyP qs)) n=none:=by
   unfold Sy.yet;rw [if_neg (by intro z;cases z),hg]
   rfl
  rw [ey] at y1;cases(show v= .non from y1)
  refine iteB (uc rfl) ?_;have e0:Sy.S0 (SyP qs) n=⟨[(n,p)],[]⟩:=by unfold Sy.S0;rw [hg]
  rw [e0] at bI;have bY:fk1.length=0:=bY ey;refine⟨0,o.x,o.dx,0,bZ.e,Z2 o _ (by decide+kernel),0,o,n,qs,[],[],p,1,bZ,hB.q,bd,by decide,bf,by decide,hg,λgn sn H2 k2 am b3 bC bD bE aT=> ?_⟩
  have cn:Kp (LO o) H H2:=⟨λb ob h z=>k2.kept b ob (aV.kept b ob h z) (λy=>z (by simp only [LO,uB,uC,uM] at y⊢;rcases y with y|y;exact .inl y;exact .inr (.inl y))),aV.tk.trans k2.tk⟩
  have aN:∀b∈plc gn sn,H b=none:=λb U=>by
   have h3:=aT b U;cases h:H b with
   |none=>rfl
   |some ob=>
    by_cases c:b=o.df
    ·rw [c,f1] at h3;cases h3
    ·rw [k1.kept b ob h (aU b c)] at h3;cases h3
  have bh:∀b,b≠o.ls->b≠o.du->b∉ [o.ls,o.du]:=λb h1 h2 z=>by
   simp only [uB,uC,uM] at z;rcases z with z|z
   ·exact h1 z
   ·exact h2 z
  refine bJ H2 ⟨[(n,p)],[]⟩ [(gn,sn)] (putK [] (Sum.inr n) (.bl true)) [] fk1 ⟨cn,⟨(0),e0.symm⟩,am,b3,?_,?_,k2.kept _ _ bg (bh _ (U0 n2) (U0 n4)),1,1,(by show 0+_<=_;omega),k2.kept _ _ f1 (bh _ (U0 n3) (U0 n5)),d1.mono k2.tk,by omega,⟨bC,bD,bE,trivial⟩,?_,⟨λb U z=>(by cases z),trivial⟩,?_,(λq hq=>by cases hq),?_⟩
  ·intro m';rw [xi];by_cases c:m'=n
   ·rw [if_pos (by rw [c])]
    exact(uc (by rw [c];exact ud)).symm
   ·rw [if_neg (λz=>c (Ub z)),Wv];exact(ue (λz=>c (List.mem_singleton.mp z))).symm
  ·have:=yy [] (Sum.inr n:Key) (.bl true);rw [List.length_nil] at this;omega
  ·intro b U;rcases List.mem_append.mp U with U|U
   ·exact aN b U
   ·cases U
  ·intro q hq;rcases hq with hq|hq
   ·cases List.mem_singleton.mp hq;exact gi_g0 hB.q hg
   ·cases hq
  ·exact List.nodup_cons.mpr ⟨(λz=>by cases z),vZ⟩
end
def Dn (qs:oj (Str×D))(n:Str)(don:oj (Str×Gp)):Prop:=∃j,Sy.nx (Sy.S0 (SyP qs) n) j=⟨[],don⟩
section
variable {qs:oj (Str×D)}{n:Str}{don don':oj (Str×Gp)}
theorem dn_one (h:Dn qs n don)(k:Dn qs n don'):don=don':=by
 obtain⟨i,hi⟩:=h;obtain⟨j,O⟩:=k;have e:=Sy.nx_one (S:=Sy.S0 (SyP qs) n) (k:=i) (j:=j) (by rw [hi]) (by rw [O])
 rw [hi,O] at e;exact congrArg Sy.Ss.don e
theorem Wu (O:g0D n (qW qs n)=none)(h:Dn qs n don):don= []:=by
 have U:Sy.S0 (SyP qs) n=⟨[],[]⟩:=by unfold Sy.S0;rw [show(SyP qs).g0 n=none from O]
 exact dn_one h ⟨(0),U⟩
theorem dn_ok {g:Gp}(O:g0D n (qW qs n)=some g)(h:Dn qs n don):Sy.SOk (Y:=SyP qs) n ⟨[],don⟩:=by
 obtain⟨j,U⟩:=h;rw [<-U];exact Sy.nx_ok (je qs) (Sy.S0_ok O) j
theorem WP {g:Gp}(O:g0D n (qW qs n)=some g)(h:Dn qs n don):(don.map (·.1)).getLast? =some n:=by
 rcases(dn_ok O h).bot with b|⟨_,b⟩
 ·cases b
 ·exact b
theorem dn_mem (h:Dn qs n don){p:Str×Gp}(O:p∈don):∃s,g0D p.1 (qW qs p.1)=some s/\p.2=Sy.it (SyP qs) (Sy.F (SyP qs)) 302 s:=by
 cases U:g0D n (qW qs n) with
 |none=>rw [Wu U h] at O;cases O
 |some g=>exact(dn_ok U h).don p O
theorem dn_nd (h:Dn qs n don):(don.map (·.1)).Nodup:=by
 cases O:g0D n (qW qs n) with
 |none=>rw [Wu O h];exact vZ
 |some g=>exact(dn_ok O h).nd
theorem dn_same {m:Str}{p:Gp}(h:Dn qs n don)(hp:(m,p)∈don)(k:Dn qs m don'):(m,p)∈don':=by
 obtain⟨s,O,e2⟩:=dn_mem h hp;have hl:=WP O k;have hm:=List.mem_of_getLast? hl;obtain⟨⟨U,p'⟩,hq,rfl⟩:=List.mem_map.mp hm;obtain⟨s',e3,e4⟩:=dn_mem k hq;have e3:g0D U (qW qs U)=some s':=e3;have e4:p'=_:=e4;have e2:p=_:=e2;have O:g0D U (qW qs U)=some s:=O;rw [O] at e3;cases e3;rw [e2,<-e4];exact hq
end
theorem op_catGK {X:Cx}{K:o0}(h:X.K=K):OpR X (binaryOp .Add) (rCatG K):=by subst h;exact zO
def ZF (p:Gp):D:= .tup (p.ra++runPG p.run)
noncomputable def endP (p:Gp):D:=p.en.getD .non
theorem fullP_eq (p:Gp):Yx p= .tup [ZF p,endP p]:=rfl
def Jg (q:Str×Gp):D:= .tup [.str q.1,ZF q.2,endP q.2]
noncomputable def paperD (don:oj (Str×Gp)):D:= .tup (don.map Jg)
theorem rk_vs:∀{rk:oj (Key×V)}{don:oj (Str×Gp)},(rk.map (·.1)=don.map λp=>Sum.inr p.1)->∃vs:oj (Str×V),rk=inrK vs/\vs.map (·.1)=don.map (·.1)/\vs.map (·.2)=rk.map (·.2)
 | [],[],_=>⟨[],1,1,1⟩
 | [],_::_,h=>by cases h
 |_::_,[],h=>by cases h
 |(k,v)::r,p::l,h=>by
  injection h with h1 h2
  obtain⟨vs,O,e2,U⟩:=rk_vs h2;refine⟨(p.1,v)::vs,?_,?_,?_⟩
  ·rw [xt,<-O];have h1:k=Sum.inr p.1:=h1;rw [h1]
  ·rw [uq,uq,e2]
  ·rw [uq,uq,U]
mutual
theorem Is.tupN {H H':Hp}(t:∀b xs,H b=some (.tup xs)->H' b=some (.tup xs)):∀{d:D}{v:V},nD d=true->Is H d v->Is H' d v
 | .non,_,_,h=>h
 | .bl _,_,_,h=>h
 | .int _,_,_,h=>h
 | .str _,_,_,h=>h
 | .lst,_,n,_=>by cases n
 | .dct,_,n,_=>by cases n
 | .tup xs,_,n,h=>by
  obtain⟨a,vs,e,ha,O⟩:=h;exact⟨a,vs,e,t a vs ha,IsL.tupN t n O⟩
theorem IsL.tupN {H H':Hp}(t:∀b xs,H b=some (.tup xs)->H' b=some (.tup xs)):∀{ds:oj D}{vs:oj V},nL ds=true->L2.IsL H ds vs->L2.IsL H' ds vs
 | [],_,_,h=>h
 |_::_,_,n,h=>by
  obtain⟨v,r,e,h1,h2⟩:=h;simp only [nL,ur] at n;exact⟨v,r,e,Is.tupN t n.1 h1,IsL.tupN t n.2 h2⟩
end
theorem gi_nd {p:Gp}(h:GI p)(O:p.en.isSome=true):nD (ZF p)=true/\dp (ZF p)<=31/\nD (endP p)=true/\dp (endP p)<=20:=by
 have h1:nL (p.ra++runPG p.run)=true/\dpL (p.ra++runPG p.run)<=30:=by
  cases hr:p.run with
  |none=>exact⟨nL_app h.ra.1 rfl,dpL_app 30 h.ra.2.1 (by simp [dpL,runPG])⟩
  |some q=>
   obtain⟨rs,r⟩:=q;have h2:=(h.run rs r hr).2.1.gs;exact⟨nL_app h.ra.1 h2.1,dpL_app 30 h.ra.2.1 h2.2.1⟩
 refine⟨h1.1,by show 1+_<=31;omega,?_⟩
 unfold endP;cases U:p.en with
 |none=>rw [U] at O;cases O
 |some d=>
  show nD d=true/\dp d<=20;rcases h.en d U with⟨z,rfl⟩|⟨x,rfl,hx⟩|⟨z,rfl⟩
  ·exact⟨1,by show dp (.tup [.str "fault",.str z])<=20;simp [dp,dpL]⟩
  ·have:=XN hx;refine⟨?_,?_⟩
   ·simp only [nD,nL,good_n (yD hx),vL]
   ·simp only [dp,dpL];omega
  ·exact⟨1,by simp [dp,dpL]⟩
theorem lc_items {K:o0}{d A:o3}{o:Obj}{H1:Hp}{Q:VK}{te:TE}{ps:oj (Str×D)}{kvs:oj (Key×V)}(f:Str×D->D)(hd:H1 d=some (.frz o (.dK kvs)))(hk:kvs.map (·.1)=ps.map λp=>Sum.inr p.1)(hl:L2.IsL H1 (ps.map (·.2)) (kvs.map (·.2)))(hn:ps.length<=sizeLine)(hA:H1 A=none)
  (ac:∀p v H (R:VK),p∈ps->Same H1 H->Is H p.2 v->(∀y H',Same H H'->Is H' (f p) y->R y H')->te [some (.str p.1),some v] H R)
  (hQ:∀H' ys,Same H1 H'->H' A=some (.lst ys)->L2.IsL H' (ps.map f) ys->Q (.ref A) H'):lcGo A (Iti d o) (gTup K 2 (gCons (YC 0) (gCons (YC 1) gNil))) tYes te [none,none] H1 Q:=by
 have ln:kvs.length=ps.length:=by
  have:=congrArg List.length hk;rw [u9,u9] at this;exact this
 refine⟨ps.length,λi σ ys H=>(∃w1 w2,σ= [w1,w2])/\L2.IsL H ((ps.take i).map f) ys/\Same H1 H,hn,⟨⟨none,none,1⟩,1,qg hA _⟩,?_,?_⟩
 ·rintro i σ ys H hi ⟨⟨w1,w2,rfl⟩,hy,sm⟩ U ad;refine⟨⟨kvs,sm _ _ hd,by omega⟩,λx H' y=> ?_⟩
  obtain⟨t,p,rfl,ht,rfl,y⟩:=y;have e3:=y kvs (sm _ _ hd);have s2:=qg ht (.tup [kV p.1,p.2]);have e4:p.1=Sum.inr ps[i].1:=by
   have h1:(kvs.map (·.1))[i]? =some p.1:=by rw [uF,e3];rfl
   rw [hk,uF,uf hi] at h1;exact(uE h1).symm
  obtain⟨v,e1,e2⟩:=hl.get (d:=ps[i].2) (i:=i) (by rw [uF,uf hi];rfl)
  have e5:v=p.2:=by
   rw [uF,e3] at e1;exact(uE e1).symm
  subst e5;refine⟨t,0,SqT.of qf,1,_,0,_,0,1,?_⟩;dsimp only [tYes];rw [if_pos rfl,e4];have O:=sm.trans s2;rw [e4] at s2 O;refine ac ps[i] p.2 _ _ (uT hi) O (e2.mono O.tk) λy H4 s4 i4=> ?_;have aa:=s4 _ _ (s2 _ _ U);refine⟨aa,⟨_,0⟩,?_,λb o e=>by rw [qh (qj e hA)];exact s4 _ _ (O b o e)⟩
  have t:Tk H4 (upd H4 A (.lst (ys++ [y]))):=Tk.updL aa;have et:(ps.take (i+1)).map f=(ps.take i).map f++ [f ps[i]]:=by rw [vv,uf hi,uu];rfl
  rw [et];exact(((hy.mono s2.tk).mono s4.tk).mono t).append (L2.IsL.one (i4.mono t))
 ·rintro σ ys H ⟨_,hy,sm⟩ U;rw [Um] at hy;exact⟨⟨kvs,sm _ _ hd,Nat.le_of_eq ln⟩,hQ H ys sm U hy⟩
structure OrdAt (CO:o3)(H H':Hp)(qs:oj (Str×D))(n:Str)(o:Oc)(rk:oj (Key×V))(don:oj (Str×Gp)):Prop where
 sm:Same H H'
 e:H' o.x=some (.ins CO o.dx (ofs o))
 dr:H' o.dr=some (.dK rk)
 new:H o.dr=none
 ks:rk.map (·.1)=don.map λp=>Sum.inr p.1
 vs:L2.IsL H' (don.map λp=>Yx p.2) (rk.map (·.2))
 dn:Dn qs n don
 gi:∀p∈don,GI p.2/\p.2.en.isSome=true
 len:don.length<=20001
def sp_chk (bn:o3):Sp:=λvs H Q E=>∃v d,vs= [v]/\Is H d v/\(isNm d=true->∀H',Same H H'->Q .non H')/\(isNm d=false->∀(e:o3) (H':Hp),Same H H'->E (.ref e) (some bn) H')
def sp_chks (bn:o3):Sp:=λvs H Q E=>∃t v d,vs= [.ref t]/\H t=some (.tup [v])/\Is H d v/\(isNm d=true->∀H',Same H H'->Q .non H')/\(isNm d=false->∀(e:o3) (H':Hp),Same H H'->E (.ref e) (some bn) H')
def sp_over (CO CP bn:o3):Sp:=λvs H Q E=>∃(px t:o3) (v:V) (d:D) (qs:oj (Str×D)),vs= [.ref px,.ref t]/\H t=some (.tup [v])/\Is H d v/\yV CP H px qs/\YH qs/\
 (∀n,d= .str n->nm n=true->∀H' o rk don,OrdAt CO H H' qs n o rk don->Q (.ref o.x) H')/\(isNm d=false->∀(e:o3) (H':Hp),Same H H'->E (.ref e) (some bn) H')
def sp_from (CO CP bn:o3):Sp:=λvs H Q E=>∃(px:o3) (v:V) (d:D) (qs:oj (Str×D)),vs= [.ref px,v]/\Is H d v/\yV CP H px qs/\YH qs/\
 (∀n,d= .str n->nm n=true->∀H' o rk don,OrdAt CO H H' qs n o rk don->Q (.ref o.x) H')/\(isNm d=false->∀(e:o3) (H':Hp),Same H H'->E (.ref e) (some bn) H')
def sp_fullr (CP:o3):Sp:=λvs H Q _=>∃(px:o3) (n:Str) (qs:oj (Str×D)) (g:Gp),vs= [.ref px,.str n]/\nm n=true/\yV CP H px qs/\YH qs/\g0D n (qW qs n)=some g/\∀v H' don p,Same H H'->Dn qs n don->(n,p)∈don->Is H' (Yx p) v->Q v H'
def sp_met (CP:o3):Sp:=λvs H Q _=>∃(px:o3) (n:Str) (qs:oj (Str×D)),vs= [.ref px,.str n]/\nm n=true/\yV CP H px qs/\YH qs/\∀t H' don,Same H H'->H' t=some (.tup (don.map λp=>V.str p.1))->Dn qs n don->don.length<=20001->(∀p∈don,GI p.2/\p.2.en.isSome=true)->Q (.ref t) H'
def sp_paper (CP bn:o3):Sp:=λvs H Q E=>∃(px:o3) (v:V) (d:D) (qs:oj (Str×D)),vs= [.ref px,v]/\Is H d v/\yV CP H px qs/\YH qs/\
 (∀n,d= .str n->nm n=true->∀u H' don,Same H H'->Is H' (paperD don) u->Dn qs n don->(∀p∈don,GI p.2/\p.2.en.isSome=true)->don.length<=20001->Q u H')/\(isNm d=false->∀(e:o3) (H':Hp),Same H H'->E (.ref e) (some bn) H')
section
variable {P:o9}{w:og}{K:o0}{mg:Str->om o6}{base:o8}{a:Ad}{g:Ga}
theorem ok_chk (T:Tx K mg a)(C:Fx K w mg g a):FnOk P w K mg base (CX1 P w) 2 a.X1 a.XW ["name"] (sp_chk g.bn):=by
 have O:=Xg (P:=P) (w:=w) (base:=base) T;refine T.g_check_name.F.okX Wh () (λ_ _ _ _ H _ Q E U h=> ?_)
 obtain⟨v,d,rfl,hv,k1,k2⟩:=h;refine⟨_,#[qe,3,#[qI,8,#[Qp,4,#[Qe,3,#[qx,16,O,U.mono (),_,T.g_is_name.m,T.g_is_name.F.kp,T.g_is_name.b,.nil,qB,#[qb,5,pv 0,qd,_],_,_,_],_]],#[qe,3,#[Wr,22,C.x_BadName,_,C.ZR,qm,_,_]],qw]],?_⟩
 try dsimp only [cxOf,Cx.nox]
 refine⟨0,v,d,1,hv,λH1 s1=>⟨0,?_⟩⟩;cases hn:isNm d with
 |false=>exact iteT ⟨1,λe=>k2 hn e H1 s1⟩
 |true=>exact iteF (k1 hn H1 s1)
theorem ok_chks (T:Tx K mg a)(C:Fx K w mg g a):FnOk P w K mg base (CX1 P w) 3 a.xT a.xV ["names"] (sp_chks g.bn):=by
 have O:=ok_chk (P:=P) (w:=w) (base:=base) T C;refine T.g_check_names.F.okX Js () (λ_ _ _ _ H _ Q E hr h=> ?_)
 obtain⟨t,v,d,rfl,ht,hv,k1,k2⟩:=h;refine⟨_,#[qe,3,#[jv,8,PassesOwn.leaving,rfl,#[pi_tup,4,pv 0],#[qO,2,(1),1,Js.nd,rfl,Or.inl rfl,_],#[qe,3,#[qU,4,#[qx,16,O,hr.mono (),_,T.g_check_name.m,T.g_check_name.F.kp,T.g_check_name.b,.nil,pass1,#[qb,5,pv 1,qd,_],_,_,_],_]],_]],?_⟩
 try dsimp only [cxOf,Cx.nox]
 refine⟨0,t,1,⟨_,SqT.of ht⟩,?_⟩;refine Wk (xs:= [v]) (λi σ H'=>(∃u,σ= [some (.ref t),u])/\Same H H'/\(i=1->isNm d=true)) ⟨⟨0⟩,Same.refl _,λz=>(by cases z)⟩ (λi σ H' _ h=>SqT.of (h.2.1 _ _ ht)) ?_ ?_
 ·rintro i x σ H' hx ⟨⟨u,rfl⟩,s1,_⟩;have U:x=v/\i=0:=by
   cases i with
   |zero=>exact⟨(uE hx).symm,1⟩
   |succ i=>cases hx
  obtain⟨rfl,rfl⟩:=U;exact⟨0,x,d,1,hv.mono s1.tk,λhn H2 s2=>⟨⟨0⟩,s1.trans s2,λ_=>hn⟩,λhn e H2 s2=>k2 hn e H2 (s1.trans s2)⟩
 ·rintro σ H' ⟨_,s1,hn⟩;exact k1 (hn rfl) H' s1
theorem ok_over (T:Tx K mg a)(C:Fx K w mg g a):FnOk P w K mg base (CX1 P w) 14 a.X6 a.XR ["project","names"] (sp_over a.qo a.qH g.bn):=by
 have W1:=ok_chks (P:=P) (w:=w) (base:=base) T C;have Xk:=ok_oinit (P:=P) (w:=w) (base:=base) T;have YW:=ok_thru (P:=P) (w:=w) (base:=base) T C;refine T.g_order_over.F.okX Y4 () (λ_ _ _ _ H _ Q E hr h=> ?_)
 obtain⟨px,t,v,d,qs,rfl,ht,hv,hP,hq,k1,k2⟩:=h;refine⟨_,#[qc,5,#[qU,4,#[qx,16,W1,hr.mono (),_,T.g_check_names.m,T.g_check_names.F.kp,T.g_check_names.b,.nil,pass1,#[qb,5,pv 1,qd,_],_,_,_],_],#[qc,5,#[qC,2,(2),4,Y4.nd,rfl,Or.inl rfl,#[WG,17,T.M_PlainOrder,Xk,hr.mono (),_,T.m_PlainOrder,T.g_PlainOrder_init.b,.nil,qB,#[qb,5,pv 0,qd,_],_,_,_],_,_],#[qc,5,#[jv,8,PassesOwn.leaving,rfl,#[pi_tup,4,pv 1],#[qO,2,(3),1,Y4.nd,rfl,Or.inl rfl,_],#[qe,3,#[qU,4,#[Qr,20,pv 2,T.qv,T.g_PlainOrder_go_through.h,YW,hr.mono (),T.g_PlainOrder_go_through.b,.nil,qB,#[qb,5,pv 3,qd,_],_,_,_],_]],_],#[qe,3,#[qq,4,pv 2]]]]],?_⟩
 try dsimp only [cxOf,Cx.nox]
 refine⟨0,t,v,d,1,ht,hv,λhn H1 s1=> ?_,k2⟩;obtain⟨n,rfl,hn⟩:=isNm_st hn;cases(show v= .str n from hv.1)
 refine⟨0,λx dx hx am nx=> ?_⟩;have s0:Same H1 (upd (upd H1 dx (.own x)) x (.ins a.qo dx [])):=λb o h=>by rw [qh (qj h hx),qh (qj h am)];exact h
 refine⟨x,dx,px,1,qf,λo H2 eo ao ap kp tk f1 f2 f3 f4 nd O ac ad ae af=>⟨1,?_⟩⟩;have aq:Same H1 H2:=λb ob h=>kp b ob (s0 b ob h) (qj h hx);have aa:=s1.trans aq;have ag:=aa _ _ ht;subst eo ao ap;have hB:Bs a.qo a.qH H2 o qs:=⟨⟨O,hP.same aa⟩,⟨_,ac⟩,⟨_,ad⟩,⟨_,ae⟩,⟨_,af⟩,nd,hq⟩;refine⟨0,t,1,⟨_,SqT.of ag⟩,?_⟩;have fr:∀b,H2 b=none∨upd (upd H1 o.dx (.own o.x)) o.x (.ins a.qo o.dx []) b=none->H b=none:=λb U=>by
  cases e:H b with
  |none=>rfl
  |some ob=>
   rcases U with U|U
   ·rw [aa b ob e] at U;cases U
   ·rw [s0 b ob (s1 b ob e)] at U;cases U
 let J_:Nat->L2.St->Hp->Prop:=λi σ H'=>(∃u,σ= [some (.ref o.px),some (.ref t),some (.ref o.x),u])/\((i=0/\H'=H2)∨(i=1/\∃rk don,OrdAt a.qo H H' qs n o rk don))
 refine Wk (xs:= [.str n]) J_ ⟨⟨0⟩,.inl ⟨1,1⟩⟩ (λi σ H' _ h=> ?_) ?_ ?_
 ·rcases h.2 with⟨_,rfl⟩|⟨_,rk,don,h⟩
  ·exact SqT.of ag
  ·exact SqT.of (h.sm _ _ ht)
 ·rintro i x' σ H' ah ⟨⟨u,rfl⟩,h⟩;have au:x'= .str n/\i=0:=by
   cases i with
   |zero=>exact⟨(uE ah).symm,1⟩
   |succ i=>cases ah
  obtain⟨rfl,rfl⟩:=au;rcases h with⟨_,rfl⟩|⟨z,_⟩
  ·refine⟨0,o.x,o.dx,0,O,Z2 o _ (by decide+kernel),0,o,qs,n,1,hB,ac,ad,ae,af,λH3 rk don j k3 aw ak ax ay aA al=> ?_⟩
   have out:∀b,H b≠none->b∉LO o:=λb U z=>by
    simp only [LO,uB,uC,uM] at z;rcases z with rfl|rfl|rfl|rfl
    ·exact U (fr _ (.inr f1))
    ·exact U (fr _ (.inr f2))
    ·exact U (fr _ (.inr f3))
    ·exact U (fr _ (.inr f4))
   refine⟨⟨0⟩,.inr ⟨1,rk,don,λb ob e=>k3.kept b ob (aa b ob e) (out b (by rw [e];intro z;cases z)),?_,ak,fr _ (.inr f3),ax,ay,⟨j,aw⟩,aA,al⟩⟩
   refine k3.kept _ _ O λz=> ?_;simp only [LO,uB,uC,uM] at z;rcases z with z|z|z|z
   ·rw [z,ac] at O;cases O
   ·rw [z,ad] at O;cases O
   ·rw [z,ae] at O;cases O
   ·rw [z,af] at O;cases O
  ·cases z
 ·rintro σ H' ⟨⟨u,rfl⟩,h⟩;rcases h with⟨z,_⟩|⟨_,rk,don,h⟩
  ·cases z
  ·exact⟨0,k1 n rfl hn H' o rk don h⟩
theorem ok_from (T:Tx K mg a)(C:Fx K w mg g a):FnOk P w K mg base (CX1 P w) 15 a.X4 a.XX ["project","name"] (sp_from a.qo a.qH g.bn):=by
 have O:=ok_over (P:=P) (w:=w) (base:=base) T C;refine T.g_order_from.F.okX WE () (λ_ _ _ s H _ Q E hr h=> ?_)
 obtain⟨px,v,d,qs,rfl,hv,hP,hq,k1,k2⟩:=h;have hs:=uA;refine⟨_,#[qe,3,#[qq,4,#[qx,16,O,hr.mono (),_,T.g_order_over.m,T.g_order_over.F.kp,T.g_order_over.b,.nil,pass1,#[qb,5,pv 0,#[qb,5,#[qF,5,#[qb,5,pv 1,qd,_]],qd,_],_],_,_,_]]],?_⟩
 try dsimp only [cxOf,Cx.nox]
 refine⟨0,0,(sml rfl),λt ht=> ?_⟩;have s1:=qg ht (.tup [v]);refine⟨px,t,v,d,qs,1,qf,hv.mono s1.tk,hP.same s1,hq,λn hn U H' o rk don h=>k1 n hn U H' o rk don ⟨s1.trans h.sm,h.e,h.dr,s1.free h.new,h.ks,h.vs,h.dn,h.gi,h.len⟩,λhn e H' s'=>k2 hn e H' (s1.trans s')⟩
theorem ok_fullr (T:Tx K mg a)(C:Fx K w mg g a):FnOk P w K mg base CX0 16 a.wV a.wT ["project","name"] (sp_fullr a.qH):=by
 have yL:=ok_from (P:=P) (w:=w) (base:=base) T C;refine T.g_full_run.F.ok ZP () (λ_ _ _ _ H vs Q E hr h=> ?_)
 obtain⟨px,n,qs,gp,rfl,hn,hP,hq,hg,k⟩:=h;have ad:=zq hn;refine⟨_,#[qc,5,#[qC,2,(2),4,ZP.nd,rfl,Or.inl rfl,#[qx,16,yL,hr.mono (),_,T.g_order_from.m,T.g_order_from.F.kp,T.g_order_from.b,.nil,passF,#[qb,5,pv 0,#[qb,5,pv 1,qd,_],_],_,_,_],_,_],#[qc,5,#[qI,8,#[pt_cmp,6,#[pc_dnotin,5,QU hr,pv 1,#[qG,5,pv 2,rfl]],_],#[qe,3,YO],qw],#[qe,3,#[qq,4,#[QA,6,QU hr,#[qG,5,pv 2,rfl],pv 1,(λ_ _=>rfl)]]]]],?_⟩
 try dsimp only [cxOf,Cx.nox]
 refine⟨0,0,px,.str n,.str n,qs,1,YQ (by omega),hP,hq,λn' e _ H' o rk don h=> ?_,λz=>(by rw [show isNm (.str n)=true from hn] at z;cases z)⟩
 cases e;obtain⟨vs,e1,e2,e3⟩:=rk_vs h.ks;have hl:=WP hg h.dn;have O:=List.mem_of_getLast? hl;obtain⟨⟨m,p⟩,aa,rfl⟩:=List.mem_map.mp O;have hk:vs.map (·.1)=(don.map λq=>(q.1,Yx q.2)).map (·.1):=by rw [e2,uG];rfl
 have hi:L2.IsL H' ((don.map λq=>(q.1,Yx q.2)).map (·.2)) (vs.map (·.2)):=by rw [e3,uG];exact h.vs
 have ac:m∈(don.map λq=>(q.1,Yx q.2)).map (·.1):=by rw [uG];exact O
 obtain⟨l1,l2⟩:=look2 hk hi ac;have hd:qW (don.map λq=>(q.1,Yx q.2)) m=Yx p:=dat_of (by rw [uG];exact dn_nd h.dn) (List.mem_map.mpr ⟨(m,p),aa,1⟩)
 rw [hd] at l2;have U:=h.dr;rw [e1] at U;refine⟨0,0,o.x,_,o.dx,_,0,h.e,T.qv,T.qP,of_fr o,o.dr,0,DGet.k (k:=Sum.inr m) U,0,?_⟩;rw [l1];refine iteN rfl ?_;refine⟨0,o.x,_,o.dx,_,0,h.e,T.qv,T.qP,of_fr o,0,o.dr,0,(by rw [<-l1];exact DGet.k (k:=Sum.inr m) U),?_⟩
 exact k _ H' don p h.sm h.dn aa l2
theorem ok_met (T:Tx K mg a)(C:Fx K w mg g a):FnOk P w K mg base CX0 16 a.f_met_by a.d_met_by ["project","name"] (sp_met a.qH):=by
 have O:=ok_from (P:=P) (w:=w) (base:=base) T C;refine T.g_met_by.F.ok sc_met_by () (λ_ _ _ _ H _ Q E U h=> ?_)
 obtain⟨px,n,qs,rfl,hn,hP,hq,k⟩:=h;have aa:=zq hn;refine⟨_,#[qe,3,#[qq,4,#[qY,9,#[call_tupleD,1,rfl],_,T.Qz,vf,#[qb,5,#[qG,5,#[qx,16,O,U.mono (),_,T.g_order_from.m,T.g_order_from.F.kp,T.g_order_from.b,.nil,passF,#[qb,5,pv 0,#[qb,5,pv 1,qd,_],_],_,_,_],rfl],qd,_],_,_,_,_]]],?_⟩
 try dsimp only [cxOf,Cx.nox]
 refine⟨0,0,px,.str n,.str n,qs,1,YQ (by omega),hP,hq,λn' e _ H' o rk don h=> ?_,λz=>(by rw [show isNm (.str n)=true from hn] at z;cases z)⟩
 cases e;refine⟨o.x,_,o.dx,_,0,h.e,T.qv,T.qP,of_fr o,o.dr,rk,1,.inl h.dr,λt ht=> ?_⟩;refine k t _ don (h.sm.trans (qg ht _)) ?_ h.dn h.len h.gi;rw [qf];have e:(rk.map λp=>kV p.1)=don.map λp=>V.str p.1:=by
  have:=congrArg (List.map kV) h.ks;rw [uG,uG] at this;exact this
 rw [e]
theorem ok_paper (T:Tx K mg a)(C:Fx K w mg g a):FnOk P w K mg base (CX1 P w) 16 a.wv a.wN ["project","name"] (sp_paper a.qH g.bn):=by
 have yL:=ok_from (P:=P) (w:=w) (base:=base) T C;refine T.g_paper_of.F.okX zX () (λ_ _ _ s H _ Q E hr h=> ?_)
 obtain⟨px,v,d,qs,rfl,hv,hP,hq,k1,k2⟩:=h;have hs:=uA;refine⟨_,#[qc,5,#[qC,2,(2),4,zX.nd,rfl,Or.inl rfl,#[qG,5,#[qx,16,yL,hr.mono (),_,T.g_order_from.m,T.g_order_from.F.kp,T.g_order_from.b,.nil,pass1,#[qb,5,pv 0,#[qb,5,pv 1,qd,_],_],_,_,_],rfl],_,_],#[qe,3,#[qq,4,#[qY,9,qT,_,T.Qz,vf,#[qb,5,#[pe_frzK,3,#[JX,2,["met","run"],(2),[],9,lcsN (qi Je) ["project","name","full_runs"],rfl,#[pi_itmF,8,pv 2,_,_],(λ_ _ _ _ _ _=>#[pg_tupK,1,K,3,(2),1,rfl,rfl,yY #[qO,2,(0),1,(show List.Nodup (["met","run"]:oj Str) by decide+kernel),rfl,Or.inl rfl,_] (yY #[qO,2,(1),1,(show List.Nodup (["met","run"]:oj Str) by decide+kernel),rfl,Or.inl rfl,_] WK),_,_]),(λ_ _ _ _ _ _=> @Q5 _),(λ_ _ _ _ _ _=>#[qF,5,#[qb,5,pv 0,#[qb,5,#[qL,7,#[Zu,1,K,rfl],pv 1,qk,(λ_ _=>rfl)],#[qb,5,#[qL,7,#[Zu,1,K,rfl],pv 1,qk,(λ_ _=>rfl)],qd,_],_],_]]),_]],qd,_],_,_,_,_]]]],?_⟩
 try dsimp only [cxOf,Cx.nox]
 refine⟨0,0,px,v,d,qs,1,hv,hP,hq,λn e hn H1 o rk don h=> ?_,k2⟩;refine⟨o.x,_,o.dx,_,0,h.e,T.qv,T.qP,of_fr o,?_⟩;refine .inr ⟨o.dr,rk,h.dr,λob=> ?_⟩;refine⟨0,o.dr,ob,rk,1,qf,λA0 ag=> ?_⟩;have ac:∀b xs,H1 b=some (.tup xs)->upd H1 o.dr (.frz ob (.dK rk)) b=some (.tup xs):=λb xs e=>by rw [qh (λz=>by rw [z,h.dr] at e;cases e)];exact e
 have ad:∀l:oj (Str×Gp),(∀p∈l,GI p.2/\p.2.en.isSome=true)->nL (l.map λp=>Yx p.2)=true:=by
  intro l
  induction l with
  |nil=>exact λ_=>rfl
  |cons p r ih=>
   intro hl;obtain⟨h1,h2⟩:=hl p ud;obtain⟨a1,_,a2,_⟩:=gi_nd h1 h2;show((nD (ZF p.2)&&(nD (endP p.2)&&true))&&nL (r.map λp=>Yx p.2))=true;rw [ih λq hq=>hl q (ub _ hq),a1,a2]
   rfl
 have ah:L2.IsL (upd H1 o.dr (.frz ob (.dK rk))) ((don.map λq=>(q.1,Yx q.2)).map (·.2)) (rk.map (·.2)):=by
  rw [uG];exact IsL.tupN ac (ad don h.gi) h.vs
 refine lc_items (ps:=don.map λq=>(q.1,Yx q.2)) (λq=>match q.2 with| .tup [x,y]=> .tup [.str q.1,x,y]|z=>z) qf (by rw [uG,h.ks];rfl) ah (by rw [u9];have:=h.len;omega) ag (λq v H2 R ak s2 U r=> ?_) λH2 ys s2 aa ae=> ?_
 ·obtain⟨p,hp,rfl⟩:=List.mem_map.mp ak;have U:Is H2 (.tup [ZF p.2,endP p.2]) v:=U;obtain⟨b0,ws,rfl,af,w1,r1,rfl,al,w2,r2,rfl,am,h3⟩:=U;cases(show r2= [] from h3)
  refine⟨0,0,b0,_,_,0,1,SqT.of af,1,0,b0,_,_,0,1,SqT.of af,1,(sml rfl),λt ht=> ?_⟩;have aq:p.1.length<=100:=by
   have hg:=h.gi p hp;obtain⟨s',e1,_⟩:=dn_mem h.dn hp;have:=zq (Jy hq ((je qs).gn p.1 s' e1)).1;omega
  exact r _ _ (qg ht _) (Is.new (ds:= [.str p.1,ZF p.2,endP p.2]) ⟨_,0,YQ (by omega),_,0,al,_,0,am,1⟩ ht)
 ·refine⟨s2 _ _ qf,?_⟩;have O:=s2 _ _ (qf (H:=H1) (a:=o.dr) (o:= .frz ob (.dK rk)));have nA:A0≠o.dr:=λz=>by rw [z,O] at aa;cases aa
  have ao:Same H1 (upd H2 o.dr (.dK rk)):=λb u e=>by
   by_cases c:b=o.dr
   ·rw [c,h.dr] at e;cases e;rw [c];exact qf
   ·rw [qh c];exact s2 b u (by rw [qh c];exact e)
  have ap:Tk H2 (upd H2 o.dr (.dK rk)):=by
   refine⟨λb xs e=> ?_,λb xs e=>⟨xs,?_⟩,λb xs e=>⟨xs,?_⟩⟩<;>(rw [qh (λz=>by rw [z,O] at e;cases e)];exact e)
  refine⟨A0,ys,1,.inl ⟨SqL.of (by rw [qh nA];exact aa),λl hl=> ?_⟩⟩
  have s4:=qg hl (.tup ys);refine k1 n e hn _ _ don ((h.sm.trans ao).trans s4) ?_ h.dn h.gi h.len;have e5:(don.map λq=>(q.1,Yx q.2)).map (λq=>match q.2 with| .tup [x,y]=>D.tup [.str q.1,x,y]|z=>z)=don.map Jg:=by rw [uG];rfl
  rw [e5] at ae;exact⟨l,ys,1,qf,(ae.mono ap).mono s4.tk⟩
noncomputable def fstD:D->D
 | .tup (k::_)=>k
 |d=>d
def wn (don:oj (Str×Gp)):D->D
 | .str m=>match don.find? λq=>decide (q.1=m) with
  |some q=>Jg q
  |none=> .non
 |d=>d
theorem x9:∀{don:oj (Str×Gp)},(don.map (·.1)).Nodup->∀q∈don,(don.find? λp=>decide (p.1=q.1))=some q
 |p::r,h,q,hq=>by
  rw [uq,UB] at h;rcases List.mem_cons.mp hq with rfl|hq
  ·rw [uV,uc rfl]
  ·have O:p.1≠q.1:=λz=>h.1 (by rw [z];exact List.mem_map_of_mem hq)
   rw [uV,ue O];exact x9 h.2 q hq
theorem steps_of {don:oj (Str×Gp)}(h:(don.map (·.1)).Nodup):(don.map λp=>D.str p.1).map (wn don)=don.map Jg:=by
 rw [uG];refine vV λq O=> ?_;show wn don (.str q.1)=Jg q;unfold wn;simp only [x9 h q O]
theorem paper_nd {don:oj (Str×Gp)}(h:∀p∈don,GI p.2/\p.2.en.isSome=true):nL (don.map Jg)=true/\dpL (don.map Jg)<=40:=by
 induction don with
 |nil=>exact⟨1,by simp [dpL]⟩
 |cons p r O=>
  obtain⟨h1,h2⟩:=h p ud;obtain⟨U,i2⟩:=O λq hq=>h q (ub _ hq);obtain⟨a1,a2,a3,a4⟩:=gi_nd h1 h2;refine⟨?_,?_⟩
  ·show((true&&(nD (ZF p.2)&&(nD (endP p.2)&&true)))&&nL (r.map Jg))=true;rw [a1,a3,U]
   rfl
  ·show max (1+dpL [.str p.1,ZF p.2,endP p.2]) (dpL (r.map Jg))<=40;have e:dpL [.str p.1,ZF p.2,endP p.2]<=31:=by
    show max 1 (max (dp (ZF p.2)) (max (dp (endP p.2)) 0))<=31;omega
   omega
def ZZ:oj Str:= ["zz"]
def BT:oj Str:= ["","A","9a","a b",Txt.mul "a" 25,"a-b","/a"]
theorem bt_no:∀z∈BT,nm z=false/\z.length<=100:=by decide+kernel
def sp_refused (CP:o3):Sp:=λvs H Q _=>∃(px:o3) (z:Str) (qs:oj (Str×D)),vs= [.ref px,.str z]/\yV CP H px qs/\YH qs/\nm z=false/\z.length<=100/\∀H',Same H H'->Q (.bl true) H'
def sp_law (K:o0):Sp:=λvs H Q _=>∃(a:o3) (ns:oj Int),vs= [.ref a]/\SqL K H a (ns.map V.int)/\ns.length<=63/\∀H',Q (.bl true) H'
theorem fst_prs (ps:oj (Str×D)):(ps.map prD).map fstD=(ps.map (·.1)).map D.str:=by
 rw [uG,uG]
 rfl
theorem strs_is {H:Hp}:∀{zs:oj Str}{vs:oj V},L2.IsL H (zs.map D.str) vs->vs=zs.map V.str
 | [],_,h=>h
 |z::r,_,h=>by
  obtain⟨v,q,rfl,⟨rfl,_⟩,h2⟩:=h;rw [strs_is h2]
  rfl
theorem is_strs {H:Hp}:∀{zs:oj Str},(∀z∈zs,z.length<=100)->L2.IsL H (zs.map D.str) (zs.map V.str)
 | [],_=>rfl
 |z::r,h=>⟨_,0,YQ (by have:=h z ud;omega),is_strs λy O=>h y (ub _ O)⟩
theorem lc_fst {K:o0}{a A:o3}{H1:Hp}{te:TE}{tl:L2.St}{Q:VK}{ps:oj (Str×D)}{us:oj V}(ha:H1 a=some (.lst us))(hl:L2.IsL H1 (ps.map prD) us)(hn:ps.length<=60)(hA:H1 A=none)
  (O:∀p x H (R:VK),p∈ps->Same H1 H->Is H (prD p) x->(∀y H',Same H H'->Is H' (.str p.1) y->R y H')->te (some x::tl) H R)
  (hQ:∀H',Same H1 H'->H' A=some (.lst ((ps.map (·.1)).map V.str))->Q (.ref A) H'):lcGo A (Itl K a) (YC 0) tYes te (none::tl) H1 Q:=by
 have hs:=uA;refine lc_lstS (ds:=ps.map prD) fstD ha hl (by rw [u9];omega) hA (λd x H R hd s hx r=> ?_) λH' ys s U hy=>hQ H' s ?_
 ·obtain⟨p,hp,rfl⟩:=List.mem_map.mp hd;exact O p x H R hp s hx r
 ·rw [fst_prs] at hy;rw [<-strs_is hy];exact U
theorem at_neg1 {α:Type}{xs:oj α}{j:Nat}{v:α}(O:xs.length=j+1)(h:xs[j]? =some v):atI xs (-1)=some v:=by
 unfold atI ixN;rw [if_neg (by decide),if_pos (by omega)]
 show xs[(-1+(xs.length:Int)).toNat]? =some v;rw [show(-1+(xs.length:Int)).toNat=j by omega]
 exact h
theorem first_str {p:Str×Gp}{H:Hp}{v:V}(h:Is H (Jg p) v):∃t O U,v= .ref t/\H t=some (.tup [.str p.1,O,U]):=by
 obtain⟨t,ws,rfl,ht,x1,r1,rfl,⟨rfl,_⟩,x2,r2,rfl,_,x3,r3,rfl,_,h4⟩:=h;cases(show r3= [] from h4)
 exact⟨t,x2,x3,1,ht⟩
theorem ok_refused (T:Tx K mg a)(C:Fx K w mg g a):FnOk P w K mg base CX0 17 a.xY a.xl ["project","text"] (sp_refused a.qH):=by
 have YG:=ok_paper (P:=P) (w:=w) (base:=base) T C;refine T.g_law_refused.F.ok Q1 () (λ_ _ _ _ H _ Q E hr h=> ?_)
 obtain⟨px,z,qs,rfl,hP,hq,hz,ac,k⟩:=h;have hs:=uA;refine⟨_,#[qc,5,#[qC,2,(2),4,Q1.nd,rfl,Or.inl rfl,YR,_,_],#[qc,5,#[ps_tryEA,1,(3),21,Q1.nd,rfl,rfl,YG,hr.mono (),_,T.g_paper_of.m,T.g_paper_of.F.kp,T.g_paper_of.b,#[qb,5,pv 0,#[qb,5,pv 1,qd,_],_],⟨1,1⟩,_,C.WA,(λ_ _=>#[qc,5,#[qC,2,(2),4,Q1.nd,rfl,Or.inl rfl,#[wp,7,#[qy,9,#[XI,2,rfl],_,T.qE,uK,#[qb,5,pv 3,#[qb,5,#[zm,4,_,C.ZR,_],qd,_],_],_,_,_,_],#[XJ,5,#[qy,9,#[XI,2,rfl],_,T.qE,uK,#[qb,5,pv 3,#[qb,5,#[QN,2,.ty "ValueError",2,_,T.z_ValueError,boot_VE,rfl,_,_],qd,_],_],_,_,_,_]]],_,_],#[qe,3,#[qC,2,(2),4,Q1.nd,rfl,Or.inl rfl,#[wp,7,pv 2,#[XJ,5,#[pe_not,4,#[qy,9,#[call_isinstT,2,rfl],_,T.qE,uK,#[qb,5,pv 3,#[qb,5,#[qF,5,#[qb,5,#[zm,4,_,C.m_BadAnswer,_],#[qb,5,#[zm,4,_,C.m_BadRule,_],#[qb,5,#[zm,4,_,C.m_BadThing,_],#[qb,5,#[zm,4,_,C.m_NoThing,_],qd,_],_],_],_]],qd,_],_],_,_,_,_]]]],_,_]]]),_,_,_,_,_],#[qe,3,#[qq,4,pv 2]]]],?_⟩
 try dsimp only [cxOf,Cx.nox]
 have U:PySem.W.kitOne K (.ref g.bn) (.ref g.bn)=some true:=by
  unfold PySem.W.kitOne;rw [if_pos (by simp)]
 refine⟨0,0,px,.str z,.str z,qs,1,YQ (by omega),hP,hq,λn e hn=> ?_,λ_ O H1 s1=>⟨g.bn,1,C.ew,λea he aa=> ?_⟩⟩
 ·cases e;rw [hz] at hn;cases hn
 cases he;have e1:(upd H1 O (ExcO O g.bn)) O=some (ExcO O g.bn):=qf;have s2:=s1.trans (qg aa (ExcO O g.bn));show tSeq _ _ _ _ (upd H1 O (ExcO O g.bn));generalize upd H1 O (ExcO O g.bn)=H2 at e1 s2⊢;refine⟨0,.ref O,.ref g.bn,.ref g.bn,.ref g.bn,true,1,.own _,.exc e1 C.xc,U,0,iteT ?_⟩;refine⟨0,.ref O,.ty "ValueError",.type "ValueError",.ref g.bn,true,1,.ty _,.exc e1 C.xc,C.ve,?_⟩;refine⟨0,0,iteT ?_⟩;refine⟨0,(sml rfl),λt3 h3=> ?_⟩;have s3:=qg h3 (.tup [.ref g.ba,.ref g.br,.ref g.xBadThing,.ref g.xNoThing]);refine⟨O,g.bn,t3,[g.ba,g.br,g.xBadThing,g.xNoThing],false,1,s3 _ _ e1,qf,C.xc,C.ot,0,?_⟩;exact⟨0,k _ (s2.trans s3)⟩
theorem ok_law (T:Tx K mg a)(C:Fx K w mg g a):FnOk P w K mg base CX0 18 a.f_law a.d_law ["script"] (sp_law K):=by
 have WO:=ok_lsrcs (P:=P) (w:=w) (base:=base) T;have Z4:=ok_init (P:=P) (w:=w) (base:=base) T;have Qm:=JP (P:=P) (w:=w) (base:=base) T;have YG:=ok_paper (P:=P) (w:=w) (base:=base) T C;have af:=ok_fullr (P:=P) (w:=w) (base:=base) T C;have ak:=ok_met (P:=P) (w:=w) (base:=base) T C;have WZ:=ok_refused (P:=P) (w:=w) (base:=base) T C;refine T.g_law.F.ok xU () (λ_ A _ s H _ Q E hr h=> ?_)
 obtain⟨q,ns,rfl,hq,ch,k⟩:=h;have hs:=uA;refine⟨_,#[qc,5,#[qC,2,(1),4,xU.nd,rfl,Or.inl rfl,#[qx,16,WO,hr.mono (),_,T.g_law_sources.m,T.g_law_sources.F.kp,T.g_law_sources.b,.nil,qB,#[qb,5,pv 0,qd,_],_,_,_],_,_],#[qc,5,#[qC,2,(2),4,xU.nd,rfl,Or.inr rfl,#[WG,17,T.M_Project,Z4,hr.mono (),_,T.m_Project,T.g_Project_init.b,.nil,qB,#[qb,5,#[qY,9,qT,_,T.Qz,vf,#[qb,5,pv 1,qd,_],_,_,_,_],qd,_],_,_,_],_,_],#[qc,5,#[jv,8,v6,rfl,#[JT,4,#[qZ,8,op_cat,#[JX,2,["pair"],(1),[],9,lcs0,rfl,#[JT,4,pv 1],(λ_ _ _ _ _ _=>#[qO,2,(0),1,(show List.Nodup (["pair"]:oj Str) by decide+kernel),rfl,Or.inl rfl,_]),(λ_ _ _ _ _ _=> @Q5 _),(λ_ _ _ _ _ _=>#[qL,7,#[Zu,1,K,rfl],pv 0,qk,(λ_ _=>rfl)]),_],#[QO,4,#[qb,5,qm,qd,_]]]],#[qO,2,(3),1,xU.nd,rfl,Or.inl rfl,_],#[qc,5,#[qC,2,(4),4,xU.nd,rfl,Or.inl rfl,#[qY,9,qT,_,T.Qz,vf,#[qb,5,#[JX,2,["met","project"],(1),[2],9,lcsN (qi s_law) ["script","pairs","project","name","due","found","source","text"],rfl,#[zS,4,#[qx,16,ak,hr.mono (),_,T.g_met_by.m,T.g_met_by.F.kp,T.g_met_by.b,.nil,qB,#[qb,5,pv 2,#[qb,5,pv 3,qd,_],_],_,_,_]],(λ_ _ _ _ _ _=>#[qO,2,(0),1,(show List.Nodup (["met","project"]:oj Str) by decide+kernel),rfl,Or.inl rfl,_]),(λ_ _ _ _ _ _=> @Q5 _),(λ_ _ _ _ _ _=>#[qZ,8,op_catGK (K:=K) rfl,#[qF,5,#[qb,5,pv 0,qd,_]],#[qx,16,af,hr.mono (),_,T.g_full_run.m,T.g_full_run.F.kp,T.g_full_run.b,.nil,qB,#[qb,5,pv 1,#[qb,5,pv 0,qd,_],_],_,_,_]]),_],qd,_],_,_,_,_],_,_],#[qc,5,#[qC,2,(5),4,xU.nd,rfl,Or.inl rfl,#[qx,16,YG,hr.mono (),_,T.g_paper_of.m,T.g_paper_of.F.kp,T.g_paper_of.b,.nil,passF,#[qb,5,pv 2,#[qb,5,pv 3,qd,_],_],_,_,_],_,_],#[qc,5,@qI _ _ _ _ _ _ _ _ #[Zm,7,#[Qp,4,#[Qe,3,#[qy,9,#[qM,2,rfl],_,T.qE,uK,#[qb,5,pv 5,#[qb,5,#[QN,2,.ty "tuple",2,_,T.Qz,vf,rfl,_,_],qd,_],_],_,_,_,_],_]],#[xh,4,#[qr,8,#[op_neTN,1,hr.units],pv 5,pv 4,qz _]]].pt #[qe,3,#[qq,4,YR]] qw,#[qc,5,#[qC,2,(6),4,xU.nd,rfl,Or.inl rfl,#[Qr,20,pv 2,T.yK,T.g_Project_source_of.h,Qm,hr.mono (),T.g_Project_source_of.b,.nil,qB,#[qb,5,pv 3,qd,_],_,_,_],_,_],#[qc,5,#[qI,8,#[qr,8,op_ne,#[pe_or,7,#[yo,8,yT,pv 6,qQ,qz _],#[XJ,5,#[yo,8,QM,#[qL,7,Jt,pv 6,qk,(λ_ _=>rfl)],qm,qz _]]],#[yo,8,#[op_eqNil,1,hr.units0],pv 5,#[qF,5,qd],qz _],qz _],#[qe,3,#[qq,4,YR]],qw],#[qe,3,@qI _ _ _ _ _ _ _ _ #[pw_and,7,#[qr,8,#[op_neNil,1,hr.units],pv 5,#[qF,5,qd],qz _],#[pw_and1,4,#[qr,8,op_ne,#[qL,7,qJ,#[qL,7,qJ,pv 5,#[pe_un,6,un_neg,qk],(λ_ _=>rfl)],qk,(λ_ _=>rfl)],pv 3,qz _]]].pt #[qe,3,#[qq,4,YR]] qw]]]]]],_],#[qc,5,#[jv,8,v6,rfl,#[JT,4,#[qZ,8,op_cat,#[QO,4,#[qb,5,qm,qd,_]],#[JX,2,["pair"],(1),[],9,lcs0,rfl,#[JT,4,#[zA,10,sl_list,pv 1,Wz,#[zW,3,qk]]],(λ_ _ _ _ _ _=>#[qO,2,(0),1,(show List.Nodup (["pair"]:oj Str) by decide+kernel),rfl,Or.inl rfl,_]),(λ_ _ _ _ _ _=> @Q5 _),(λ_ _ _ _ _ _=>#[qL,7,#[Zu,1,K,rfl],pv 0,qk,(λ_ _=>rfl)]),_]]],#[qO,2,(3),1,xU.nd,rfl,Or.inl rfl,_],#[qe,3,#[qI,8,#[qr,8,#[op_neTN,1,hr.units],#[qx,16,YG,hr.mono (),_,T.g_paper_of.m,T.g_paper_of.F.kp,T.g_paper_of.b,.nil,passF,#[qb,5,pv 2,#[qb,5,pv 3,qd,_],_],_,_,_],#[qx,16,YG,hr.mono (),_,T.g_paper_of.m,T.g_paper_of.F.kp,T.g_paper_of.b,.nil,passF,#[qb,5,pv 2,#[qb,5,pv 3,qd,_],_],_,_,_],qz _],#[qe,3,#[qq,4,YR]],qw]],_],#[qc,5,#[jv,8,v6,rfl,#[JT,4,#[QO,4,#[qb,5,qm,#[qb,5,qm,#[qb,5,qm,#[qb,5,qm,#[qb,5,#[qZ,8,op_repS,qm,qk],#[qb,5,qm,#[qb,5,qm,qd,_],_],_],_],_],_],_]]],#[qO,2,(7),1,xU.nd,rfl,Or.inl rfl,_],#[qe,3,#[qI,8,#[Qp,4,#[Qe,3,#[qx,16,WZ,hr.mono (),_,T.g_law_refused.m,T.g_law_refused.F.kp,T.g_law_refused.b,.nil,qB,#[qb,5,pv 2,#[qb,5,pv 7,qd,_],_],_,_,_],_]],#[qe,3,#[qq,4,YR]],qw]],_],#[qe,3,#[qq,4,YR]]]]]]],?_⟩
 try dsimp only [cxOf,Cx.nox]
 refine Qt λN1 q1=> ?_;refine⟨0,q,ns,1,hq,λL ps us H1 _ s1 hL a3 hok a4=>q1 _ _ ?_⟩;refine Qt λN2 q2=> ?_;refine⟨0,L,us,1,.inl ⟨SqL.of hL,λt ht=> ?_⟩⟩;have m1:=qg ht (.tup us);intro x dx nx bF ci;have m2:Same (upd H1 t (.tup us)) (upd (upd (upd H1 t (.tup us)) dx (.own x)) x (.ins a.qH dx [])):=λb ob e=>by
  rw [qh (qj e nx),qh (qj e bF)];exact e
 have aK:=m1.trans m2;refine⟨x,dx,t,ps,us,1,qf,m2 _ _ qf,a3.mono aK.tk,hok,a4,λqs H3 keep hP hT bG=>⟨1,q2 _ _ ?_⟩⟩;refine Qt λN3 q3=> ?_;have s3:Same H1 H3:=λb ob e=>keep b ob (aK _ _ e) (qj (m1 _ _ e) nx);have aL:=s3 _ _ hL;have aD:=a3.mono s3.tk;have aM:∀z∈ps.map (·.1),nm z=true:=hok.1.1;have a5:nm "zz"=true:=by decide+kernel
 have bH:∀z∈ps.map (·.1),z.length<=100:=λz hz=>by have:=zq (aM z hz);omega
 clear m1 m2 aK keep;have a6:∀p v H' (R:VK),p∈ps->Is H' (prD p) v->(∀y aN,Same H' aN->Is aN (.str p.1) y->R y aN)->tOp (rIxT K) (tVar 0) (tC (.int 0)) [some v] H' R:=λp v H' R hp hv r=>by
  obtain⟨b0,ws,rfl,bI,w1,r1,rfl,⟨rfl,a7⟩,w2,r2,rfl,_,h3⟩:=hv;cases(show r2= [] from h3)
  exact⟨0,b0,_,_,0,1,SqT.of bI,1,r _ _ (Same.refl _) ⟨1,a7⟩⟩
 refine⟨0,L,1,⟨_,SqL.of aL⟩,λA0 aO=> ?_⟩;refine lc_fst aL aD a4 aO (λp v H' R hp s' hv r=>a6 p v H' R hp hv r) λH4 s4 bJ=> ?_;refine⟨(sml rfl),λl5 h5=> ?_⟩;have s5:=qg h5 (.lst [V.str "zz"]);refine⟨A0,l5,_,0,1,s5 _ _ bJ,qf,(by rw [u9,u9];show _+1<=sizeLine;omega),λl6 h6=> ?_⟩
 have s6:=qg h6 (.lst ((ps.map (·.1)).map V.str++ [V.str "zz"]));have aP:=(s4.trans s5).trans s6;have aQ:upd (upd H4 l5 (.lst [V.str "zz"])) l6 (.lst ((ps.map (·.1)).map V.str++ [V.str "zz"])) l6=some (.lst ((ps.map (·.1)++ZZ).map V.str)):=by
  rw [qf,uu]
  rfl
 generalize upd (upd H4 l5 (.lst [V.str "zz"])) l6 (.lst ((ps.map (·.1)).map V.str++ [V.str "zz"]))=H6 at aP aQ⊢;have a8:∀z∈ps.map (·.1)++ZZ,nm z=true:=λz hz=>by
  rcases List.mem_append.mp hz with hz|hz
  ·exact aM z hz
  ·cases List.mem_singleton.mp hz;exact a5
 refine⟨l6,1,⟨_,SqL.of aQ⟩,?_⟩
 let J_:Nat->L2.St->Hp->Prop:=λi σ H'=>(∃u3 u4 u5 u6 u7,σ= [some (.ref q),some (.ref L),some (.ref x),u3,u4,u5,u6,u7])/\Same H6 H'
 refine zx (xs:=(ps.map (·.1)++ZZ).map V.str) J_ ⟨⟨_,_,_,_,0⟩,Same.refl _⟩ (λi σ H' _ h=>SqL.of (h.2 _ _ aQ)) ?_ ?_
 ·rintro i y σ H' hy ⟨⟨u3,u4,u5,u6,u7,rfl⟩,s7⟩;obtain⟨n,hn,rfl⟩:=List.mem_map.mp (uS hy);have al:=a8 n hn;have bK:=zq al;have ay:=(hP.same aP).same s7;show tSeq _ _ _ _ H';refine Qt λB1 b1=> ?_;refine⟨0,0,x,n,qs,1,al,ay,hT,λt8 H8 don s8 a9 ac cj bL=> ?_⟩;refine⟨t8,0,SqT.of a9,λck A9 bM=> ?_⟩;have bN:∀p∈don,p.1.length<=100:=λp hp=>by
   obtain⟨s',e1,_⟩:=dn_mem ac hp;have:=zq (Jy hT ((je qs).gn p.1 s' e1)).1;omega
  have bO:L2.IsL H8 (don.map λp=>D.str p.1) (don.map λp=>V.str p.1):=by
   have:=is_strs (H:=H8) (zs:=don.map (·.1)) (λz hz=>by obtain⟨p,hp,rfl⟩:=List.mem_map.mp hz;exact bN p hp)
   rw [uG,uG] at this;exact this
  have bb:=ay.same s8;refine WV (tl:= [some (.ref x)]) (wn don) a9 bO (by rw [u9];omega) bM (λd v H' R hd s' hv r=> ?_) λH9 ys s9 bc bd=> ?_
  ·obtain⟨⟨m,p⟩,hp,rfl⟩:=List.mem_map.mp hd;obtain⟨rfl,bP⟩:=(show v= .str m/\m.length<=sizeLine from hv)
   have bQ:wn don (.str m)=Jg (m,p):=by
    unfold wn;simp only [x9 (dn_nd ac) (m,p) hp]
   rw [bQ] at r;refine⟨0,(sml rfl),λt1 h1=> ?_⟩;have q1:=qg h1 (.tup [V.str m]);obtain⟨s0,e0,_⟩:=dn_mem ac hp;have bR:=(Jy hT ((je qs).gn m s0 e0)).1;refine⟨0,0,x,m,qs,s0,1,bR,(bb.same s').same q1,hT,e0,λv2 H2 O p2 s2 ag bS i2=> ?_⟩;have bT:p2=p:=by
    have h3:=dn_same ac hp ag;have h4:=x9 (dn_nd ag) (m,p) h3;have h5:=x9 (dn_nd ag) (m,p2) bS;rw [show(m,p).1=(m,p2).1 from rfl,h5] at h4
    exact congrArg Prod.snd (uE h4)
   rw [bT,fullP_eq] at i2;have i1:Is H2 (.tup [.str m]) (.ref t1):=(Is.new (ds:= [.str m]) ⟨_,0,⟨1,bP⟩,1⟩ h1).mono s2.tk;exact catG_is i1 i2 (by show 1+2<=1000;omega) λv3 bU bV i3=>r v3 bU ((q1.trans s2).trans bV) i3
  rw [steps_of (dn_nd ac)] at bd;refine⟨A9,ys,1,.inl ⟨SqL.of bc,λam bW=> ?_⟩⟩;have ao:=qg bW (.tup ys);have aE:Is (upd H9 am (.tup ys)) (paperD don) (.ref am):=⟨am,ys,1,qf,bd.mono ao.tk⟩;generalize upd H9 am (.tup ys)=aR at ao aE⊢;refine b1 _ _ ?_;refine Qt λB2 b2=> ?_;have aF:=s9.trans ao;have aG:=bb.same aF;refine⟨0,0,x,.str n,.str n,qs,1,YQ (by omega),aG,hT,λn' e' _ bX aS O ap aT ag bf cf=> ?_,λz=>(by rw [show isNm (.str n)=true from al] at z;cases z)⟩
  cases e';have aq:=dn_one ag ac;subst aq;obtain⟨n1,n2⟩:=paper_nd bL;refine b2 _ _ ?_;refine Qt λB3 b3=> ?_;refine⟨0,bX,"tuple",tyD (paperD O),xN (paperD O),1,aT.ty,jL _,0,iteF ?_⟩;refine⟨0,0,O.map Jg,O.map Jg,aT,aE.mono ap.tk,n1,n1,by omega,0,?_⟩
  refine iteN (by rw [(eqNL_iff n1).mpr rfl];rfl) (b3 _ _ ?_)
  refine Qt λB4 b4=> ?_;have ad:=aG.same ap;obtain⟨bY,cn,cp,cq,hx,hd,hk,hv⟩:=id ad;refine⟨0,x,bY,0,hx,jV,0,x,n,qs,1,ad,λsv h1 h2=> ?_⟩;obtain⟨tf,fv,rfl,aU,aV⟩:=id aT;have aA:fv.isEmpty=O.isEmpty:=by
   have:=aV.length;rw [u9] at this;cases fv with
   |nil=>
    cases O with
    |nil=>rfl
    |cons _ _=>cases this
   |cons _ _=>
    cases O with
    |nil=>cases this
    |cons _ _=>rfl
  have bg:∀b:Bool,(b=true↔g0D n (qW qs n)=none)->b=O.isEmpty:=λb hb=>by
   cases hg:g0D n (qW qs n) with
   |none=>rw [hb.mpr hg,Wu hg ac];rfl
   |some g1=>
    have h1:b=false:=by
     cases b with
     |false=>rfl
     |true=>have:=hb.mp rfl;rw [hg] at this;cases this
    have ae:=WP hg ac;cases O with
    |nil=>cases ae
    |cons _ _=>rw [h1];rfl
  refine b4 _ _ ?_;refine Qt λN hN=> ?_;have bh:∀ah,Same aS ah->N [some (.ref q),some (.ref L),some (.ref x),some (.str n),some (.ref am),some (.ref tf),some sv,u7] ah:=by
   intro ah U;refine hN _ _ ?_;have aH:=(((s7.trans s8).trans aF).trans ap).trans U;have au:=U _ _ aU;refine⟨0,uW _,λbZ aW=> ?_⟩;have aa:=qg aW (.tup ([]:oj V));refine⟨tf,bZ,fv,1,1,SqT.of (aa _ _ au),SqT.of qf,0,?_⟩;have done:∀H',Same H6 H'->J_ (i+1) [some (.ref q),some (.ref L),some (.ref x),some (.str n),some (.ref am),some (.ref tf),some sv,u7] H':=λH' s'=>⟨⟨_,_,_,_,0⟩,s'⟩;rcases List.eq_nil_or_concat O with e0|⟨l,p,e0⟩
   ·have aX:fv.isEmpty=true:=by rw [aA,e0];rfl
    refine iteN (by rw [aX];rfl) ?_
    exact iteN rfl (done _ (aH.trans aa))
   ·rw [List.concat_eq_append] at e0;have aX:fv.isEmpty=false:=by rw [aA,e0];cases l<;>rfl
    refine iteB (by rw [aX];rfl) ?_
    have hg:∃g1,g0D n (qW qs n)=some g1:=by
     cases hg:g0D n (qW qs n) with
     |none=>
      have:=Wu hg ac;rw [e0] at this;cases l<;>cases this
     |some g1=>exact⟨g1,1⟩
    obtain⟨g1,hg⟩:=hg;have ae:=WP hg ac;rw [e0,uu] at ae;have b5:p.1=n:=by simpa using ae
    have bo:fv.length=l.length+1:=by
     have:=aV.length;rw [u9,e0,uD] at this;exact this
    obtain⟨v,ev,iv⟩:=aV.get (i:=l.length) (d:=Jg p) (by rw [e0,uu,vG (by simp)];simp)
    obtain⟨tt,w1,w2,rfl,b6⟩:=first_str iv;refine⟨0,0,tf,_,_,0,1,SqT.of (aa _ _ au),at_neg1 bo ev,tt,_,_,0,1,SqT.of (aa _ _ (U _ _ b6)),1,0,1,0,?_⟩;refine iteN (by rw [b5];simp) ?_
    exact done _ (aH.trans aa)
  by_cases cm:n∈qs.map (·.1)
  ·obtain⟨_,kk,ee,bp,g1,g2⟩:=Jy hT cm;have bq:=h1 cm;rw [bp] at bq;obtain⟨ts,ws,rfl,b7,w1,r1,rfl,⟨rfl,_⟩,w2,r2,rfl,_,h3⟩:=bq;cases(show r2= [] from h3)
   refine⟨0,1,0,iteN (ue (λz=>by cases z)) ?_⟩
   refine⟨0,.inr (.inl ⟨ts,_,_,0,1,SqT.of b7,1,1,?_⟩)⟩;refine⟨0,uW _,λaY aZ=> ?_⟩;have U:=qg aZ (.tup ([]:oj V));refine⟨tf,aY,fv,1,1,SqT.of (U _ _ aU),SqT.of qf,1,0,?_⟩;have hb:=bg (decide (V.str kk=V.str "leaf")) (by
    rw [bp,uU];unfold g0D;simp only;constructor
    ·intro z;rw [if_pos (V.str.inj z)]
    ·intro z;by_cases c:kk="leaf"
     ·rw [c]
     ·rw [if_neg c] at z;split at z<;>cases z)
   refine iteN (by rw [hb,aA];simp) ?_
   exact bh _ U
  ·cases h2 cm;refine⟨0,1,0,iteB (uc rfl) ?_⟩;refine⟨0,uW _,λaY aZ=> ?_⟩;have U:=qg aZ (.tup ([]:oj V));refine⟨tf,aY,fv,1,1,SqT.of (U _ _ aU),SqT.of qf,1,0,?_⟩;have hb:=bg true (by rw [j7 cm];exact⟨λ_=>rfl,λ_=>rfl⟩)
   refine iteN (by rw [hb,aA];simp) ?_
   exact bh _ U
 ·rintro σ H7 ⟨⟨u3,u4,u5,u6,u7,rfl⟩,s7⟩;have a1:=aP.trans s7;have b8:=a1 _ _ aL;have bt:=aD.mono a1.tk;have ay:=hP.same a1;refine q3 _ _ ?_;refine Qt λN4 q4=> ?_;refine⟨(sml rfl),λl8 h8=> ?_⟩;have s8:=qg h8 (.lst [V.str "zz"]);refine⟨0,0,L,us,1,SqL.of (s8 _ _ b8),λl9 h9=> ?_⟩;have s9:=qg h9 (.lst (cutV us none (some 1)));have bu:cutV us none (some 1)=us.take 1:=cut_take (n:=1);have b9:L2.IsL (upd (upd H7 l8 (.lst [V.str "zz"])) l9 (.lst (cutV us none (some 1)))) ((ps.take 1).map prD) (us.take 1):=by
   have h:=bt.mono (s8.trans s9).tk;cases ps with
   |nil=>
    cases(show us= [] from h)
    exact rfl
   |cons p r=>
    obtain⟨v,u,rfl,h1,h2⟩:=h;exact⟨v,[],1,h1,1⟩
  refine⟨l9,1,⟨_,SqL.of qf⟩,λA0 aO=> ?_⟩;refine lc_fst (ps:=ps.take 1) (us:=us.take 1) (by rw [qf,bu]) b9 (by rw [vn];omega) aO (λp v H' R hp s' hv r=>a6 p v H' R (List.mem_of_mem_take hp) hv r) λaR ao bv=> ?_
  have bw:=(s8.trans s9).trans ao;refine⟨l8,A0,_,0,1,ao _ _ (s9 _ _ qf),bv,(by rw [u9,u9,vn];show 1+_<=sizeLine;omega),λaB ca=> ?_⟩
  have ap:=qg ca (.lst ([V.str "zz"]++((ps.take 1).map (·.1)).map V.str));have aI:=bw.trans ap;have aw:upd aR aB (.lst ([V.str "zz"]++((ps.take 1).map (·.1)).map V.str)) aB=some (.lst ((ZZ++(ps.take 1).map (·.1)).map V.str)):=by
   rw [qf,uu]
   rfl
  generalize upd aR aB (.lst ([V.str "zz"]++((ps.take 1).map (·.1)).map V.str))=aS at aI aw⊢;have bx:∀z∈ZZ++(ps.take 1).map (·.1),nm z=true:=λz hz=>by
   rcases List.mem_append.mp hz with hz|hz
   ·cases List.mem_singleton.mp hz;exact a5
   ·obtain⟨p,hp,rfl⟩:=List.mem_map.mp hz;exact aM p.1 (List.mem_map_of_mem (List.mem_of_mem_take hp))
  refine⟨aB,1,⟨_,SqL.of aw⟩,?_⟩
  let J2_:Nat->L2.St->Hp->Prop:=λi σ H'=>(∃u3 u4 u5 u6 u7,σ= [some (.ref q),some (.ref L),some (.ref x),u3,u4,u5,u6,u7])/\Same aS H'
  have ad:=ay.same aI;refine zx (xs:=(ZZ++(ps.take 1).map (·.1)).map V.str) J2_ ⟨⟨_,_,_,_,0⟩,Same.refl _⟩ (λi σ H' _ h=>SqL.of (h.2 _ _ aw)) ?_ ?_
  ·rintro i y σ ah hy ⟨⟨u3,u4,u5,u6,u7,rfl⟩,U⟩;obtain⟨n,hn,rfl⟩:=List.mem_map.mp (uS hy);have al:=bx n hn;have bK:=zq al;have bA:isNm (.str n)=false->False:=λz=>by rw [show isNm (.str n)=true from al] at z;cases z
   refine⟨0,0,x,.str n,.str n,qs,1,YQ (by omega),ad.same U,hT,λn' e' _ v1 bB cg aa i1 cb bC a7=> ?_,λz=>(bA z).elim⟩
   cases e';refine⟨0,0,x,.str n,.str n,qs,1,YQ (by omega),(ad.same U).same aa,hT,λn' e' _ v2 a2 O ax i2 cc bf cr=> ?_,λz=>(bA z).elim⟩
   cases e';have aq:=dn_one cc cb;subst aq;obtain⟨n1,n2⟩:=paper_nd bC;refine⟨O.map Jg,O.map Jg,i1.mono ax.tk,i2,n1,n1,by omega,0,?_⟩
   refine iteN (by rw [(eqNL_iff n1).mpr rfl];rfl) ?_
   exact⟨⟨_,_,_,_,0⟩,(U.trans aa).trans ax⟩
  ·rintro σ ah ⟨⟨u3,u4,u5,u6,u7,rfl⟩,U⟩;have bD:=ad.same U;refine q4 _ _ ?_;refine Qt λN5 q5=> ?_;have cd:MulOk "a" 25:=by unfold MulOk;decide+kernel
   refine⟨"a",(25),1,1,cd,(sml rfl),λaC aW=> ?_⟩;have aJ:upd ah aC (.lst [V.str "",V.str "A",V.str "9a",V.str "a b",V.str (Txt.mul "a" 25),V.str "a-b",V.str "/a"]) aC=some (.lst (BT.map V.str)):=qf;have aa:=qg aW (.lst [V.str "",V.str "A",V.str "9a",V.str "a b",V.str (Txt.mul "a" 25),V.str "a-b",V.str "/a"]);refine⟨aC,1,⟨_,SqL.of qf⟩,?_⟩;generalize upd ah aC (.lst [V.str "",V.str "A",V.str "9a",V.str "a b",V.str (Txt.mul "a" 25),V.str "a-b",V.str "/a"])=bB at aa aJ⊢;have bE:=bD.same aa
   let J3_:Nat->L2.St->Hp->Prop:=λi σ H'=>(∃u3 u4 u5 u6 u7,σ= [some (.ref q),some (.ref L),some (.ref x),u3,u4,u5,u6,u7])/\Same bB H'
   refine zx (xs:=BT.map V.str) J3_ ⟨⟨_,_,_,_,0⟩,Same.refl _⟩ (λi σ H' _ h=>SqL.of (h.2 _ _ aJ)) ?_ ?_
   ·rintro i y σ a2 hy ⟨⟨u3,u4,u5,u6,u7,rfl⟩,ax⟩;obtain⟨z,hz,rfl⟩:=List.mem_map.mp (uS hy);obtain⟨z1,z2⟩:=bt_no z hz;exact⟨0,0,x,z,qs,1,bE.same ax,hT,z1,z2,λcs ce=>⟨0,iteN rfl ⟨⟨_,_,_,_,0⟩,ax.trans ce⟩⟩⟩
   ·rintro σ a2 _;exact q5 _ _ (k a2)
end
theorem tx_mk {K:o0}{h:o8}{mg:Str->om o6}(X:K.In h)(G:h.Ns mainGlobals mg){U aa O ac f1 f2 f3 f4 f5 f6 f7 f8 f9 aV aW aX aY aZ a1 a2 a3 a4 a5 a6 a7 a8 a9 bb bc bd bf bg bh bo bp bq bt bu bv bw bx bA bB bC bD bE bF bG bH bI bJ bK bL bM bN bO bP bQ bR bS bT bU bV bW bX bY bZ b3 b4 b5 b6 b7 b8 b9 ca cb cc cd ce cf:o3}{t1 t2 t3 t4 t5 t6 t7 t8 t9 cg ch:Tok}
  (aL:PySem.W.nsIn K mainGlobals "Machine"=some (some (.ref U))) (aM:Cls K U) (aC:PySem.W.makesIn K U=true/\PySem.W.keepIn K (.ref U)=true)
  (aP:PySem.W.nsIn K mainGlobals "Going"=some (some (.ref aa))) (aQ:Cls K aa) (aK:PySem.W.makesIn K aa=true/\PySem.W.keepIn K (.ref aa)=true)
  (aE:PySem.W.nsIn K mainGlobals "PlainOrder"=some (some (.ref O))) (aF:Cls K O) (ag:PySem.W.makesIn K O=true/\PySem.W.keepIn K (.ref O)=true)
  (aN:PySem.W.nsIn K mainGlobals "Project"=some (some (.ref ac))) (aO:Cls K ac) (aD:PySem.W.makesIn K ac=true/\PySem.W.keepIn K (.ref ac)=true)
  (h1:FZg K "is_text" ZI f1)
  (h2:FZg K "is_tree" xg f2)
  (h3:FZg K "is_name" zH f3)
  (h4:FZg K "is_pair" Zp f4)
  (h5:FZg K "is_row_of_names" yr f5)
  (h6:FZg K "is_answer" JC f6)
  (h7:FZg K "part_of" Zg f7)
  (h8:FZg K "pieces_of" JB f8)
  (h9:FZg K "row_of" zt f9)
  (ci:FZg K "read_lines" js aV)
  (cj:FZg K "rule_rows" J1 aW)
  (ck:FZg K "bad_line" Xi aX)
  (cm:FZg K "is_rule" zT aY)
  (cn:FZg K "text_made" JR aZ)
  (cp:FZg K "self_made" JW a1)
  (cq:FZg K "copy_made" JI a2)
  (cr:FZg K "row_made" Xv a3)
  (cs:FZg K "put_made" Xc a4)
  (cu:FZg K "join_made" J0 a5)
  (cv:FZg K "first_made" jO a6)
  (cw:FZg K "rest_made" xb a7)
  (cx:FZg K "size_made" JM a8)
  (cy:FZg K "cut_made" XD a9)
  (cz:FZg K "glue_made" JQ bb)
  (cA:FZg K "is_jump_taken" Yb bc)
  (cB:FZg K "asked_or_fault" yQ bd)
  (aR:FZm K U "__init__" "Machine.__init__" Yy bf)
  (cC:FZm K U "now" "Machine.now" YS bg)
  (cD:FZm K U "answer" "Machine.answer" yP bh)
  (cE:FZm K U "asked" "Machine.asked" Yg bo)
  (cF:FZm K U "go_on" "Machine.go_on" Yc bp)
  (cG:FZm K U "is_waiting" "Machine.is_waiting" QV bq)
  (cH:FZm K U "do_row" "Machine.do_row" yN bt)
  (cI:FZm K U "hold" "Machine.hold" Yv bu)
  (aS:FZm K aa "__init__" "Going.__init__" jw bv)
  (cJ:FZm K aa "begin" "Going.begin" YU bw)
  (cK:FZm K aa "look" "Going.look" jl bx)
  (cL:FZm K aa "wanted" "Going.wanted" YB bA)
  (cM:FZm K aa "take" "Going.take" jE bB)
  (cN:FZm K aa "full" "Going.full" jH bC)
  (aT:FZm K O "__init__" "PlainOrder.__init__" yt bD)
  (cO:FZm K O "begin_anew" "PlainOrder.begin_anew" QF bE)
  (cP:FZm K O "go_through" "PlainOrder.go_through" QD bF)
  (cQ:FZm K O "enter" "PlainOrder.enter" yi bG)
  (cR:FZm K O "settle" "PlainOrder.settle" Q8 bH)
  (cS:FZm K O "runner" "PlainOrder.runner" Q4 bI)
  (cT:FZm K O "leave" "PlainOrder.leave" yl bJ)
  (cU:FZm K O "go_on" "PlainOrder.go_on" yd bK)
  (cV:FZm K O "answer_yet" "PlainOrder.answer_yet" QE bL)
  (cW:FZg K "answer_at_once" yM bM)
  (cX:FZg K "answer_by" JH bN)
  (cY:FZg K "check_name" ju bO)
  (cZ:FZg K "check_names" YZ bP)
  (c0:FZg K "order_from" jI bQ)
  (c1:FZg K "order_over" jJ bR)
  (c2:FZg K "full_run" XE bS)
  (c3:FZg K "met_by" WJ bT)
  (c4:FZg K "paper_of" Je bU)
  (c5:FZg K "is_source" J4 bV)
  (aU:FZm K ac "__init__" "Project.__init__" yC bW)
  (c6:FZm K ac "sources" "Project.sources" YM bX)
  (c7:FZm K ac "source_of" "Project.source_of" Q7 bY)
  (c8:FZm K ac "looked_up" "Project.looked_up" QH bZ)
  (c9:FZg K "longest_row" YV b3)
  (da:FZg K "_law_cell_at" YT b4)
  (de:FZg K "_law_pot" Zq b5)
  (dh:FZg K "_law_take" Xo b6)
  (di:FZg K "_law_word" XA b7)
  (dj:FZg K "_law_line" Jd b8)
  (dk:FZg K "_law_rule" Jb b9)
  (dl:FZg K "_law_maker" xf ca)
  (dm:FZg K "_law_leaf" Jf cb)
  (dq:FZg K "_law_source" jp cc)
  (dt:FZg K "_law_sources" YX cd)
  (dv:FZg K "_law_refused" Y0 ce)
  (dw:FZg K "law" s_law cf)
  (ay:PySem.W.findIn K (.ref U) "rows"=some none)
  (aA:PySem.W.findIn K (.ref U) "rule"=some none)
  (aG:PySem.W.findIn K (.ref U) "own"=some none)
  (ap:PySem.W.findIn K (.ref U) "boxes"=some none)
  (aq:PySem.W.findIn K (.ref U) "place"=some none)
  (aB:PySem.W.findIn K (.ref U) "done"=some none)
  (au:PySem.W.findIn K (.ref U) "given"=some none)
  (aw:PySem.W.findIn K (.ref U) "there"=some none)
  (aI:PySem.W.findIn K (.ref aa) "name"=some none)
  (aH:PySem.W.findIn K (.ref aa) "order"=some none)
  (ax:PySem.W.findIn K (.ref aa) "made_by"=some none)
  (al:PySem.W.findIn K (.ref aa) "rule_asks"=some none)
  (ao:PySem.W.findIn K (.ref aa) "rule_run"=some none)
  (aJ:PySem.W.findIn K (.ref aa) "end"=some none)
  (ad:PySem.W.findIn K (.ref O) "given_project"=some none)
  (ah:PySem.W.findIn K (.ref O) "stack"=some none)
  (ae:PySem.W.findIn K (.ref O) "under_way"=some none)
  (af:PySem.W.findIn K (.ref O) "full_runs"=some none)
  (ak:PySem.W.findIn K (.ref O) "found"=some none)
  (am:PySem.W.findIn K (.ref ac) "by_name"=some none)
  (g1:PySem.W.nsIn K mainGlobals "MOST_SIGNS"=some (some (.int 300 t1)))
  (g2:PySem.W.nsIn K mainGlobals "MOST_PARTS"=some (some (.int 40 t2)))
  (g3:PySem.W.nsIn K mainGlobals "MOST_SIZE"=some (some (.int 600 t3)))
  (g4:PySem.W.nsIn K mainGlobals "MOST_DEPTH"=some (some (.int 12 t4)))
  (g5:PySem.W.nsIn K mainGlobals "MOST_NAME_SIGNS"=some (some (.int 24 t5)))
  (g6:PySem.W.nsIn K mainGlobals "LETTERS"=some (some (.str "abcdefghijklmnopqrstuvwxyz" t6)))
  (g7:PySem.W.nsIn K mainGlobals "NAME_SIGNS"=some (some (.str "abcdefghijklmnopqrstuvwxyz0123456789./" t7)))
  (g8:PySem.W.nsIn K mainGlobals "PERCENT"=some (some (.int 37 t8)))
  (g9:PySem.W.nsIn K mainGlobals "MOST_LINES"=some (some (.int 40 t9)))
  (dy:PySem.W.nsIn K mainGlobals "MOST_DONE"=some (some (.int 300 cg)))
  (dz:PySem.W.nsIn K mainGlobals "MOST_NAMES"=some (some (.int 60 ch)))
  (zz:∀x∈(["ord","len","isinstance","str","tuple","all","int","range","zip","dict","sorted","abs","min","sum","ValueError"]:oj Str),PySem.W.nsIn K mainGlobals x=some none):∃a,Tx K mg a:=by
 obtain⟨d1,F1⟩:=Qh X G h1 ["value"] (by rfl');obtain⟨d2,F2⟩:=Qh X G h2 ["value"] (by rfl');obtain⟨d3,F3⟩:=Qh X G h3 ["value"] (by rfl');obtain⟨d4,F4⟩:=Qh X G h4 ["value"] (by rfl');obtain⟨d5,F5⟩:=Qh X G h5 ["tree"] (by rfl');obtain⟨d6,F6⟩:=Qh X G h6 ["ask","answer"] (by rfl');obtain⟨d7,F7⟩:=Qh X G h7 ["kind","piece","count"] (by rfl');obtain⟨d8,F8⟩:=Qh X G h8 ["line","form"] (by rfl');obtain⟨d9,F9⟩:=Qh X G h9 ["line","count"] (by rfl');obtain⟨dA,dB⟩:=Qh X G ci ["value"] (by rfl');obtain⟨dC,dD⟩:=Qh X G cj ["tree"] (by rfl');obtain⟨dE,dF⟩:=Qh X G ck ["tree"] (by rfl');obtain⟨dG,dH⟩:=Qh X G cm ["value"] (by rfl');obtain⟨dI,dJ⟩:=Qh X G cn ["boxes","own","parts"] (by rfl');obtain⟨dL,dM⟩:=Qh X G cp ["boxes","own","parts"] (by rfl');obtain⟨dN,dO⟩:=Qh X G cq ["boxes","own","parts"] (by rfl');obtain⟨dP,dQ⟩:=Qh X G cr ["boxes","own","parts"] (by rfl');obtain⟨dR,dS⟩:=Qh X G cs ["boxes","own","parts"] (by rfl');obtain⟨dU,dV⟩:=Qh X G cu ["boxes","own","parts"] (by rfl');obtain⟨dW,dX⟩:=Qh X G cv ["boxes","own","parts"] (by rfl');obtain⟨dY,dZ⟩:=Qh X G cw ["boxes","own","parts"] (by rfl');obtain⟨d0,ea⟩:=Qh X G cx ["boxes","own","parts"] (by rfl');obtain⟨eb,ec⟩:=Qh X G cy ["boxes","own","parts"] (by rfl');obtain⟨ed,ef⟩:=Qh X G cz ["boxes","own","parts"] (by rfl');obtain⟨eg,eh⟩:=Qh X G cA ["boxes","word","parts"] (by rfl');obtain⟨ei,ej⟩:=Qh X G cB ["word","held"] (by rfl');obtain⟨ek,el⟩:=yB aR ["self","rule","own"] (by rfl');obtain⟨em,eo⟩:=yB cC ["self"] (by rfl');obtain⟨eq,er⟩:=yB cD ["self","tree"] (by rfl');obtain⟨et,eu⟩:=yB cE ["self"] (by rfl');obtain⟨ey,ez⟩:=yB cF ["self"] (by rfl');obtain⟨eA,eB⟩:=yB cG ["self"] (by rfl');obtain⟨eC,eD⟩:=yB cH ["self","row"] (by rfl');obtain⟨eE,eF⟩:=yB cI ["self","box","tree"] (by rfl');obtain⟨eG,eH⟩:=yB aS ["self","name","source","order"] (by rfl');obtain⟨eI,eJ⟩:=yB cJ ["self","rule"] (by rfl');obtain⟨eK,eL⟩:=yB cK ["self"] (by rfl');obtain⟨eM,eN⟩:=yB cL ["self"] (by rfl');obtain⟨eO,eP⟩:=yB cM ["self","answer"] (by rfl');obtain⟨eQ,eR⟩:=yB cN ["self"] (by rfl');obtain⟨eS,eT⟩:=yB aT ["self","project"] (by rfl');obtain⟨eU,eV⟩:=yB cO ["self","project"] (by rfl');obtain⟨eW,eX⟩:=yB cP ["self","name"] (by rfl');obtain⟨eY,eZ⟩:=yB cQ ["self","name"] (by rfl');obtain⟨e0,e1⟩:=yB cR ["self","going"] (by rfl');obtain⟨e2,e3⟩:=yB cS ["self","rule","own"] (by rfl');obtain⟨e4,e5⟩:=yB cT ["self","going"] (by rfl');obtain⟨e6,e7⟩:=yB cU ["self","going"] (by rfl');obtain⟨e8,e9⟩:=yB cV ["self","name"] (by rfl');obtain⟨fa,fb⟩:=Qh X G cW ["source"] (by rfl');obtain⟨fc,fe⟩:=Qh X G cX ["end"] (by rfl');obtain⟨ff,fg⟩:=Qh X G cY ["name"] (by rfl');obtain⟨fh,fi⟩:=Qh X G cZ ["names"] (by rfl');obtain⟨fj,fm⟩:=Qh X G c0 ["project","name"] (by rfl');obtain⟨fo,fq⟩:=Qh X G c1 ["project","names"] (by rfl');obtain⟨ft,fu⟩:=Qh X G c2 ["project","name"] (by rfl');obtain⟨fv,fw⟩:=Qh X G c3 ["project","name"] (by rfl');obtain⟨fx,fy⟩:=Qh X G c4 ["project","name"] (by rfl');obtain⟨fz,fA⟩:=Qh X G c5 ["value"] (by rfl');obtain⟨fB,fC⟩:=yB aU ["self","sources"] (by rfl');obtain⟨fD,fE⟩:=yB c6 ["self"] (by rfl');obtain⟨fF,fG⟩:=yB c7 ["self","name"] (by rfl');obtain⟨fH,fI⟩:=yB c8 ["self","ask"] (by rfl');obtain⟨fJ,fK⟩:=Qh X G c9 ["names"] (by rfl');obtain⟨fL,fM⟩:=Qh X G da ["script","k"] (by rfl');obtain⟨fN,fO⟩:=Qh X G de ["cell","salt"] (by rfl');obtain⟨fP,fQ⟩:=Qh X G dh ["pot","many"] (by rfl');obtain⟨fR,fS⟩:=Qh X G di ["pot","names"] (by rfl');obtain⟨fT,fU⟩:=Qh X G dj ["pot","names","many","k"] (by rfl');obtain⟨fV,fW⟩:=Qh X G dk ["pot","names"] (by rfl');obtain⟨fX,fY⟩:=Qh X G dl ["pot","names"] (by rfl');obtain⟨fZ,f0⟩:=Qh X G dm ["pot","names"] (by rfl');obtain⟨gb,gc⟩:=Qh X G dq ["pot","names"] (by rfl');obtain⟨ge,gf⟩:=Qh X G dt ["script"] (by rfl');obtain⟨gg,gh⟩:=Qh X G dv ["project","text"] (by rfl');obtain⟨gj,gk⟩:=Qh X G dw ["script"] (by rfl');have z:∀x∈(["ord","len","isinstance","str","tuple","all","int","range","zip","dict","sorted","abs","min","sum","ValueError"]:oj Str),mg x=none:=λx hx=>PySem.W.mg_none_of X G (zz x hx);simp only [uB,v5,uM,forall_eq_or_imp,forall_eq] at z;obtain⟨z1,z2,z3,z4,z5,z6,z7,z8,z9,gl,gm,gp,gq,gr,gu⟩:=z;exact⟨⟨f1,d1,f2,d2,f3,d3,f4,d4,f5,d5,f6,d6,f7,d7,f8,d8,f9,d9,aV,dA,aW,dC,aX,dE,aY,dG,aZ,dI,a1,dL,a2,dN,a3,dP,a4,dR,a5,dU,a6,dW,a7,dY,a8,d0,a9,eb,bb,ed,bc,eg,bd,ei,bf,ek,bg,em,bh,eq,bo,et,bp,ey,bq,eA,bt,eC,bu,eE,bv,eG,bw,eI,bx,eK,bA,eM,bB,eO,bC,eQ,bD,eS,bE,eU,bF,eW,bG,eY,bH,e0,bI,e2,bJ,e4,bK,e6,bL,e8,bM,fa,bN,fc,bO,ff,bP,fh,bQ,fj,bR,fo,bS,ft,bT,fv,bU,fx,bV,fz,bW,fB,bX,fD,bY,fF,bZ,fH,b3,fJ,b4,fL,b5,fN,b6,fP,b7,fR,b8,fT,b9,fV,ca,fX,cb,fZ,cc,gb,cd,ge,ce,gg,cf,gj,U,aa,O,ac⟩,⟨F1,F2,F3,F4,F5,F6,F7,F8,F9,dB,dD,dF,dH,dJ,dM,dO,dQ,dS,dV,dX,dZ,ea,ec,ef,eh,ej,el,eo,er,eu,ez,eB,eD,eF,eH,eJ,eL,eN,eP,eR,eT,eV,eX,eZ,e1,e3,e5,e7,e9,fb,fe,fg,fi,fm,fq,fu,fw,fy,fA,fC,fE,fG,fI,fK,fM,fO,fQ,fS,fU,fW,fY,f0,gc,gf,gh,gk,aM,⟨aC.1,aR.1,aR.2.1,aC.2⟩,uH X G aL,ay,aA,aG,ap,aq,aB,au,aw,aQ,⟨aK.1,aS.1,aS.2.1,aK.2⟩,uH X G aP,aI,aH,ax,al,ao,aJ,aF,⟨ag.1,aT.1,aT.2.1,ag.2⟩,uH X G aE,ad,ah,ae,af,ak,aO,⟨aD.1,aU.1,aU.2.1,aD.2⟩,uH X G aN,am,⟨_,uH X G g1⟩,⟨_,uH X G g2⟩,⟨_,uH X G g3⟩,⟨_,uH X G g4⟩,⟨_,uH X G g5⟩,⟨_,uH X G g6⟩,⟨_,uH X G g7⟩,⟨_,uH X G g8⟩,⟨_,uH X G g9⟩,⟨_,uH X G dy⟩,⟨_,uH X G dz⟩,z1,z2,z3,z4,z5,z6,z7,z8,z9,gl,gm,gp,gq,gr,gu⟩⟩
theorem mk1 {K:o0}{h:o8}{mg:Str->om o6}(X:K.In h)(G:h.Ns mainGlobals mg){O f:o3}{x y:Str}(z:∃m,PySem.W.nsIn K mainGlobals y=some (some (.ref m))/\PySem.W.nsIn K O x=some (some (.ref m)))(e:mg y=some (.ref f)):PySem.W.nsIn K O x=some (some (.ref f)):=by
 obtain⟨m,h1,h2⟩:=z;have:=(uH X G h1).symm.trans e;injection this with this
 injection this with this
 rw [<-this];exact h2
def MKP:oj (Str×Str):= [("text","text_made"),("self","self_made"),("copy","copy_made"),("row","row_made"),("put","put_made"),("join","join_made"),("first","first_made"),("rest","rest_made"),("size","size_made"),("cut","cut_made"),("glue","glue_made")]
noncomputable def keyS (e:DictEntry):om Str:=match e.key with
 | .str x _=>some x
 |_=>none
theorem none_of {K:o0}{a:o3}{es:Array DictEntry}{n:Nat}(hl:K.lookup a=some ⟨.type "dict",none,.dict es n,#[]⟩)(hk:es.toList.map keyS=FRM.map λx=>some x.1){z:Str}(hz:Jz z=none):PySem.W.nsIn K a z=some none:=by
 have h1:∀e∈es.toList,∃x t,e.key= .str x t/\x≠z:=by
  intro e U;have hm:keyS e∈es.toList.map keyS:=List.mem_map.mpr ⟨e,U,1⟩;rw [hk] at hm;obtain⟨x,hx,ex⟩:=List.mem_map.mp hm;have O:=ZK hz x hx;unfold keyS at ex;split at ex
  ·rename_i y t hy
   cases ex;exact⟨_,_,hy,O⟩
  ·cases ex
 unfold PySem.W.nsIn;rw [hl];dsimp only;have f1:es.toList.find? (λe=>e.key.isStr z)=none:=by
  rw [U9];intro e U;obtain⟨x,t,hx,O⟩:=h1 e U;rw [hx];exact λq=>O (uh q)
 have f2:es.toList.any (·.refKey)=false:=by
  rw [List.any_eq_false];intro e U;obtain⟨x,t,hx,O⟩:=h1 e U;unfold DictEntry.refKey;rw [hx];exact u8
 rw [f1,f2]
 rfl
theorem fx_mk {w:og}{K:o0}{h:o8}{mg:Str->om o6}{a:Ad}(T:Tx K mg a)(X:K.In h)(G:h.Ns mainGlobals mg){aB aA aF aM ac O ae ad aW xBadThing xNoThing:o3}{eF eM:Array DictEntry}{nF nM:Nat}
  (gB:PySem.W.nsIn K mainGlobals "BOXES"=some (some (.ref aB))) (gA:PySem.W.nsIn K mainGlobals "ASKING"=some (some (.ref aA))) (gF:PySem.W.nsIn K mainGlobals "FORMS"=some (some (.ref aF))) (gM:PySem.W.nsIn K mainGlobals "MAKERS"=some (some (.ref aM)))
  (lB:TZ K aB BX) (lA:TZ K aA ["ask","has","names"]) (lF:K.lookup aF=some ⟨.type "dict",none,.dict eF nF,#[]⟩) (lM:K.lookup aM=some ⟨.type "dict",none,.dict eM nM,#[]⟩)
  (kF:PySem.W.KeysLit w.params eF.toList) (kM:PySem.W.KeysLit w.params eM.toList) (zF:(aF==sysModules)=false) (zM:(aM==sysModules)=false)
  (fF:∀x∈FRM,TZn K aF x.1 (x.2.map Kd.t)) (fM:∀p∈MKP,∃m,PySem.W.nsIn K mainGlobals p.2=some (some (.ref m))/\PySem.W.nsIn K aM p.1=some (some (.ref m))) (oM:∀z∈NOMK,PySem.W.nsIn K aM z=some none)
  (kk:eF.toList.map keyS=FRM.map λx=>some x.1)
  (g1:PySem.W.nsIn K mainGlobals "BadRule"=some (some (.ref ac))) (b1:PySem.W.excIn K ac VE "ValueError.__new__"=true)
  (g2:PySem.W.nsIn K mainGlobals "BadName"=some (some (.ref O))) (b2:PySem.W.excIn K O VE "ValueError.__new__"=true)
  (g3:PySem.W.nsIn K mainGlobals "NoAsk"=some (some (.ref ae))) (b3:PySem.W.excIn K ae VE "ValueError.__new__"=true)
  (g4:PySem.W.nsIn K mainGlobals "BadAnswer"=some (some (.ref ad))) (b4:PySem.W.excIn K ad VE "ValueError.__new__"=true)
  (gW:PySem.W.nsIn K mainGlobals "WrightError"=some (some (.ref aW)))
  (U:PySem.W.nsIn K mainGlobals "BadThing"=some (some (.ref xBadThing)))
  (aa:PySem.W.nsIn K mainGlobals "NoThing"=some (some (.ref xNoThing)))
  (e2:PySem.W.exmOne K (.ref O) (.ref aW)=some true) (x2:AwV.Jm K O) (v2:PySem.W.kitOne K (.ref O) (.type "ValueError")=some true) (o2:PySem.W.kitAny K (.ref O) [.ref ad,.ref ac,.ref xBadThing,.ref xNoThing]=some false):∃g,Fx K w mg g a:=by
 refine⟨⟨aB,aA,aF,aM,ac,O,ae,ad,aW,xBadThing,xNoThing⟩,⟨uH X G gB,uH X G gA,uH X G gF,uH X G gM,λH=>lB.sq (by decide),λH=>lA.sq (by decide),⟨zF,eF,nF,lF,kF⟩,λx hx=> ?_,⟨zM,eM,nM,lM,kM⟩,mk1 X G (fM ("text","text_made") (by decide+kernel)) T.g_text_made.m,mk1 X G (fM ("self","self_made") (by decide+kernel)) T.g_self_made.m,mk1 X G (fM ("copy","copy_made") (by decide+kernel)) T.g_copy_made.m,mk1 X G (fM ("row","row_made") (by decide+kernel)) T.g_row_made.m,mk1 X G (fM ("put","put_made") (by decide+kernel)) T.g_put_made.m,mk1 X G (fM ("join","join_made") (by decide+kernel)) T.g_join_made.m,mk1 X G (fM ("first","first_made") (by decide+kernel)) T.g_first_made.m,mk1 X G (fM ("rest","rest_made") (by decide+kernel)) T.g_rest_made.m,mk1 X G (fM ("size","size_made") (by decide+kernel)) T.g_size_made.m,mk1 X G (fM ("cut","cut_made") (by decide+kernel)) T.g_cut_made.m,mk1 X G (fM ("glue","glue_made") (by decide+kernel)) T.g_glue_made.m,oM,λz hz=>none_of lF kk hz,uH X G g1,b1,uH X G g2,b2,uH X G g3,b3,uH X G g4,b4,uH X G gW,uH X G U,uH X G aa,e2,x2,v2,o2⟩⟩
 obtain⟨q,h1,h2⟩:=fF x hx;exact⟨q,h1,λH=>by rw [Xh];exact h2.sq (by rw [u9];exact uQ (form_few x hx) (by decide))⟩
end K40
open PySem PySem.W PyProof.Rows L2
set_option maxRecDepth 100000 in
set_option maxHeartbeats 0 in
theorem PySem.Challenge.cw_askwright_k40_papers_of_names_holds : PySem.Challenge.rw_askwright_k40_papers_of_names.Holds := by
 w_on;o_law;k_head;(case hw=>w_witness2)
 k_fill
 refine L2.walk_ofK (l:=PySem.Challenge.rw_askwright_k40_papers_of_names) (n:=63) (k:=18) (x:="script") (CX:=L2.CX0) (sp:=K40.sp_law) rfl (by decide) rfl ⟨rfl,by decide,by decide⟩ (fun w h Y=>PySem.W.kIn_of Y) ?F ?S ?C
 case F=>
  intro w mg fa h KX G hmg
  have T:∃a,K40.Tx (L2.KOf KX) mg a:=by
   dsimp only [L2.KOf]
   refine' K40.tx_mk KX G ..
   all_goals first|exact⟨by k_is,_,_,_,_,_,_,_,_,_,by k_is,by k_is,by k_is⟩|exact⟨by k_is,by k_is,_,_,_,_,_,_,_,_,_,by k_is,by k_is,by k_is⟩|(show _=_;k_is)|exact⟨by k_is,by k_is,by k_is,by k_is⟩|exact⟨by k_is,by k_is⟩|(intro x hx;simp only [uB,v5,uM] at hx;rcases hx with rfl|rfl|rfl|rfl|rfl|rfl|rfl|rfl|rfl|rfl|rfl|rfl|rfl|rfl|rfl<;>k_is)|skip
  obtain⟨a,T⟩:=T
  have C:∃g,K40.Fx (L2.KOf KX) w mg g a:=by
   dsimp only [L2.KOf] at T⊢
   refine' K40.fx_mk T KX G (kF:= ?kF) (kM:= ?kM) (fF:= ?fF) (fM:= ?fM) (oM:= ?oM) (kk:= ?kk) (b1:= ?b1) (b2:= ?b2) (b3:= ?b3) (b4:= ?b4) (e2:= ?e2) (x2:= ?x2) (v2:= ?v2) (o2:= ?o2) ..
   all_goals try (first|(show _=some (some _);k_is)|(show _=some (Obj.mk _ _ _ _);k_is)|exact⟨_,_,_,_,by k_is,rfl⟩)
   (case kF=>(repeat (first|exact trivial|refine⟨⟨_,_,rfl,rfl⟩,?_⟩)));(case kM=>(repeat (first|exact trivial|refine⟨⟨_,_,rfl,rfl⟩,?_⟩)))
   case fF=>
    intro x hx
    unfold FRM at hx
    simp only [uB,v5,uM] at hx
    rcases hx with rfl|rfl|rfl|rfl|rfl|rfl|rfl|rfl|rfl|rfl|rfl|rfl|rfl|rfl|rfl|rfl|rfl|rfl|rfl|rfl<;>exact⟨_,by k_is,_,_,_,_,by k_is,rfl⟩
   case fM=>
    intro x hx
    unfold K40.MKP at hx
    simp only [uB,v5,uM] at hx
    rcases hx with rfl|rfl|rfl|rfl|rfl|rfl|rfl|rfl|rfl|rfl|rfl<;>exact⟨_,by k_is,by k_is⟩
   case oM=>
    intro x hx
    unfold K40.NOMK at hx
    simp only [uB,v5,uM] at hx
    rcases hx with rfl|rfl|rfl|rfl|rfl|rfl|rfl|rfl|rfl<;>k_is
   (case kk=>rfl);(case b1=>k_exc);(case b2=>k_exc);(case b3=>k_exc);(case b4=>k_exc);(case e2=>kts_exm);(case x2=>exact⟨by k_is,by k_is,by k_is,by k_is,by k_is,by k_is,by k_is⟩);(case v2=>kit_is);(case o2=>kit_is)
   all_goals rfl
  obtain⟨g,C⟩:=C
  have e0:=hmg.symm.trans T.g_law.m
  cases e0
  exact⟨_,T.g_law.law (fun _ _ _ _ _ _ _=>rfl),(by obtain⟨_,_,_,_,_,_,_,_,_,e,_⟩:=T.g_law.F.ex;rw [e];rfl),fun base kb nb=>K40.ok_law T C⟩
 case S=>exact fun w H a ns hl hO hS=>⟨a,ns,rfl,hS,hl,fun _=>rfl⟩
 case C=>exact fun _ _ _ _ z=>z
